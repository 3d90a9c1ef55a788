import copy
import random
import unittest

from changing import changed_papers
from facework.finding import found
from facework.kinds import put
from facework.looking import takes
from facework.papers import laid_out
from facework.things import things_of
from helping import Case, part_of, parts_of
from plain import phrase_of, plain_found, plain_takes, some_kind, some_phrase, standing
from sorted_names import NAMES, PROGRAM, SORTS, scheme


def phrase(text):
    return things_of(text)[0]


def rows_of(rows):
    return [parts_of(row) for row in rows]


class Looking(Case):

    def let_by(self, text, *rows, names=NAMES):
        with self.subTest(text=text, rows=rows):
            self.assertIs(takes(SORTS, names, phrase(text), rows_of(rows)), True)
            self.assertTrue(plain_takes(PROGRAM, names, phrase(text), rows_of(rows)))

    def wrong(self, text, *rows, names=NAMES):
        with self.subTest(text=text, rows=rows):
            self.assertIs(takes(SORTS, names, phrase(text), rows_of(rows)), False)
            self.assertFalse(plain_takes(PROGRAM, names, phrase(text), rows_of(rows)))


class Right(Looking):

    def test_numbers(self):
        self.let_by("5", "num ()")
        for row in ("bit ()", "?0 ()", "(-> num num) ()", "num (num)", "num (())", "num (() ())"):
            self.wrong("5", row)

    def test_names(self):
        self.let_by("n", "num ()")
        self.let_by("P.t", "Q.u ()")
        self.let_by("id", "(-> num num) (num)")
        self.let_by("id", "(-> ?x ?x) (?x)")
        self.let_by("id", "(-> (list ?a) (list ?a)) ((list ?a))")
        self.let_by("two", "(-> num (-> bit num)) (bit num)")
        self.let_by("more", "(-> num num) (num bit)")
        self.wrong("n", "bit ()")
        self.wrong("n", "num (num)")
        self.wrong("id", "(-> num num) ()")
        self.wrong("id", "(-> num num) (bit)")
        self.wrong("id", "(-> num num) (num num)")
        self.wrong("id", "(-> num bit) (num)")
        self.wrong("two", "(-> num (-> bit num)) (num bit)")
        self.wrong("more", "(-> num num) (num)")
        self.wrong("more", "(-> num num) (bit num)")

    def test_variables_that_are_not_given(self):
        self.let_by("v", "?a ()")
        self.let_by("mix", "(-> num (-> ?a num)) (num)")
        self.wrong("v", "?b ()")
        self.wrong("v", "num ()")
        self.wrong("v", "?a (?a)")
        self.wrong("mix", "(-> num (-> ?b num)) (num)")
        self.wrong("mix", "(-> num (-> ?a num)) (?a num)")

    def test_given_that_is_of_no_kind(self):
        for given in ((5,), (None,), (("list",),), (("->", "num"),), ((),), ("Box",), ("->",), ("fun",), (["num"],), ("5",), ("a b",)):
            for kind in ("num", "bit"):
                asked = [(("->", kind, kind), (kind,) + given)]
                self.assertIs(takes(SORTS, NAMES, "more", asked), False)
        self.assertIs(takes(SORTS, NAMES, "more", [(("->", "num", "num"), ("num", "?->"))]), True)
        self.assertIs(takes(SORTS, NAMES, "more", [(("->", "num", "num"), ("num", "?"))]), True)
        for given in (None, 0, "num", "", [], ["num", "num"], {}, ((),), "nn"):
            self.assertIs(takes(SORTS, NAMES, "more", [(("->", "num", "num"), given)]), False)
            self.assertIs(takes(SORTS, NAMES, 5, [("num", given)]), False)
            self.assertIs(takes(SORTS, NAMES, ("let", "x", 1, 2), [("num", given), ("num", ()), ("num", ())]), False)
            ring = ("ring", (("f", "x", 1),), 2)
            self.assertIs(takes(SORTS, NAMES, ring, [("num", given), ("num", ()), ("num", ())]), False)

    def test_fun(self):
        self.let_by("(fun x x)", "(-> num num) ()", "num ()")
        self.let_by("(fun x x)", "(-> ?z ?z) ()", "?z ()")
        self.let_by("(fun x 5)", "(-> (list ?0) num) ()", "num ()")
        self.let_by("(fun x (fun x x))", "(-> num (-> bit bit)) ()", "(-> bit bit) ()", "bit ()")
        self.wrong("(fun x x)", "(-> num bit) ()", "num ()")
        self.wrong("(fun x x)", "(-> num bit) ()", "bit ()")
        self.wrong("(fun x x)", "(-> ?0 ?1) ()", "?1 ()")
        self.wrong("(fun x x)", "num ()", "num ()")
        self.wrong("(fun x x)", "(pair num num) ()", "num ()")
        self.wrong("(fun x x)", "(-> num num) (num)", "num ()")
        self.wrong("(fun x (fun x x))", "(-> num (-> bit num)) ()", "(-> bit num) ()", "num ()")

    def test_call(self):
        self.let_by("(call inc 5)", "num ()", "(-> num num) ()", "num ()")
        self.wrong("(call inc 5)", "bit ()", "(-> num num) ()", "num ()")
        self.wrong("(call (fun x x) 5)", "num ()", "(-> bit num) ()", "num ()", "num ()")
        self.wrong("(call (fun x 5) On)", "num ()", "(-> num num) ()", "num ()", "bit ()")
        self.wrong("(call (fun x 5) On)", "num ()", "(bit -> num) ()", "num ()", "bit ()")
        self.wrong("(call inc 5)", "num (num)", "(-> num num) ()", "num ()")
        self.wrong("(call 5 5)", "num ()", "num ()", "num ()")

    def test_let(self):
        rows = ["num (?i)", "(-> ?i ?i) ()", "?i ()", "num ()", "(-> num num) (num)", "num ()"]
        text = "(let i (fun x x) (call i 5))"
        self.let_by(text, *rows)
        # No variable given: one kind for all places.
        self.let_by(text, "num ()", "(-> num num) ()", "num ()", "num ()", "(-> num num) ()", "num ()")
        # More given than stand in the kind.
        self.let_by(text, "num (?i ?j)", "(-> ?i ?i) ()", "?i ()", "num ()", "(-> num num) (num bit)", "num ()")
        self.wrong(text, "num (?i ?i)", "(-> ?i ?i) ()", "?i ()", "num ()", "(-> num num) (num num)", "num ()")
        self.wrong(text, "num ()", "(-> ?i ?i) ()", "?i ()", "num ()", "(-> num num) ()", "num ()")
        self.wrong(text, "num ()", "(-> ?i ?i) ()", "?i ()", "num ()", "(-> num num) (num)", "num ()")
        self.wrong(text, "num (?i)", "(-> ?i ?i) ()", "?i ()", "num ()", "(-> num num) ()", "num ()")
        self.wrong(text, "num (num)", "(-> num num) ()", "num ()", "num ()", "(-> num num) (num)", "num ()")
        self.wrong(text, "num ((list ?i))", "(-> ?i ?i) ()", "?i ()", "num ()", "(-> num num) (num)", "num ()")
        self.wrong(text, "bit (?i)", *rows[1:])
        self.wrong(text, "num (i)", *rows[1:])

    def test_given_of_a_let_that_stands_in_the_names_there(self):
        text = "(fun x (let y x y))"
        self.let_by(text, "(-> ?x ?x) ()", "?x ()", "?x ()", "?x ()")
        self.wrong(text, "(-> ?x num) ()", "num (?x)", "?x ()", "num (num)")
        self.wrong(text, "(-> ?x ?x) ()", "?x (?x)", "?x ()", "?x (?x)")
        # Spare ones too.
        self.let_by(text, "(-> ?x ?x) ()", "?x (?y)", "?x ()", "?x (num)")
        self.wrong(text, "(-> (list ?x) (list ?x)) ()", "(list ?x) (?x)", "(list ?x) ()", "(list ?x) (?x)")
        self.let_by("(let y v y)", "?a ()", "?a ()", "?a ()")
        self.wrong("(let y v y)", "num (?a)", "?a ()", "num (num)")
        # A name of no use to the let's phrases is there all the same.
        self.wrong("(let y (fun z z) 5)", "num (?a)", "(-> ?a ?a) ()", "?a ()", "num ()")
        self.let_by("(let y (fun z z) 5)", "num (?a)", "(-> ?a ?a) ()", "?a ()", "num ()", names={})
        self.wrong("(let y (fun z z) 5)", "num (?b)", "(-> ?b ?b) ()", "?b ()", "num ()")
        self.let_by("(let y (fun z z) 5)", "num (?d)", "(-> ?d ?d) ()", "?d ()", "num ()")

    def test_given_of_a_let_that_is_a_scheme_s_own(self):
        self.let_by("(let y (fun z z) 5)", "num (?c)", "(-> ?c ?c) ()", "?c ()", "num ()")
        names = {"x": scheme("?a", "(-> ?a ?b)")}
        self.let_by("(let y (fun z z) 5)", "num (?a)", "(-> ?a ?a) ()", "?a ()", "num ()", names=names)
        self.wrong("(let y (fun z z) 5)", "num (?b)", "(-> ?b ?b) ()", "?b ()", "num ()", names=names)
        names["u"] = scheme("", "?a")
        self.wrong("(let y (fun z z) 5)", "num (?a)", "(-> ?a ?a) ()", "?a ()", "num ()", names=names)
        # Two lets may give the same variable, the one behind the other and the one within the other.
        self.let_by("(let y (fun z z) (let w (fun z z) 5))", "num (?x)", "(-> ?x ?x) ()", "?x ()", "num (?x)", "(-> ?x ?x) ()", "?x ()", "num ()",
                    names={})
        self.let_by("(let y (let w (fun z z) w) 5)", "num (?x)", "(-> ?x ?x) (?x)", "(-> ?x ?x) ()", "?x ()", "(-> ?x ?x) (?x)", "num ()", names={})

    def test_a_name_that_is_hidden_is_not_there(self):
        text = "(fun x (fun x (let y (fun z z) 5)))"
        self.let_by(text, "(-> ?q (-> num num)) ()", "(-> num num) ()", "num (?q)", "(-> ?q ?q) ()", "?q ()", "num ()")
        self.wrong(text, "(-> num (-> ?q num)) ()", "(-> ?q num) ()", "num (?q)", "(-> ?q ?q) ()", "?q ()", "num ()")
        # x of let hides the outer x only behind what is given.
        self.wrong("(fun x (let x (fun z z) 5))", "(-> ?q num) ()", "num (?q)", "(-> ?q ?q) ()", "?q ()", "num ()")

    def test_ring(self):
        text = "(ring ((f x x)) (call f 5))"
        rows = ["num ((?i) ((-> ?i ?i)))", "?i ()", "num ()", "(-> num num) (num)", "num ()"]
        self.let_by(text, *rows)
        self.let_by(text, "num (() ((-> num num)))", "num ()", "num ()", "(-> num num) ()", "num ()")
        self.let_by(text, "num ((?i ?j) ((-> ?i ?i)))", "?i ()", "num ()", "(-> num num) (num bit)", "num ()")
        for row in (
            "num ((?i ?i) ((-> ?i ?i)))", "num ((?i) ())", "num ((?i) ((-> ?i ?i) (-> ?i ?i)))", "num ((?i) ((-> ?i num)))",
            "num ((?i) ((-> num ?i)))", "num ((?i) (?i))", "num ((?i) ((pair ?i ?i)))", "num ((?i))", "num (?i)", "num ()",
            "num ((?i) ((-> ?i ?i)) ())", "num ((num) ((-> ?i ?i)))", "bit ((?i) ((-> ?i ?i)))", "num (() ((-> ?i ?i)))",
            "num ((?j) ((-> ?i ?i)))", "num (?i ((-> ?i ?i)))", "num ((?i) (-> ?i ?i))", "num ((i) ((-> ?i ?i)))",
        ):
            self.wrong(text, row, *rows[1:])
        self.wrong(text, rows[0], "num ()", *rows[2:])
        self.wrong(text, *rows[:3], "(-> num num) ()", rows[4])
        self.wrong(text, *rows[:3], "(-> num num) (num num)", rows[4])

    def test_a_ring_of_two(self):
        text = "(ring ((f x (call g x)) (g y y)) (call f 5))"
        rows = ["num ((?i) ((-> ?i ?i) (-> ?i ?i)))", "?i ()", "(-> ?i ?i) ()", "?i ()", "?i ()", "num ()", "(-> num num) (num)", "num ()"]
        self.let_by(text, *rows)
        self.wrong(text, "num ((?i) ((-> ?i ?i)))", *rows[1:])
        self.wrong(text, "num ((?i) ((-> ?i ?i) (-> num num)))", *rows[1:])
        # Within the ring nothing is given for its functions.
        self.wrong(text, *rows[:2], "(-> ?i ?i) (?i)", *rows[3:])
        self.wrong(text, "num ((?i ?j) ((-> ?i ?i) (-> ?j ?j)))", "?i ()", "(-> ?i ?i) ()", "?i ()", "?j ()", "num ()", "(-> num num) (num num)", "num ()")
        swapped = "(ring ((f x 1) (g y On)) 5)"
        self.let_by(swapped, "num ((?i ?j) ((-> ?i num) (-> ?j bit)))", "num ()", "bit ()", "num ()")
        self.let_by(swapped, "num ((?j) ((-> ?i num) (-> ?j bit)))", "num ()", "bit ()", "num ()")
        self.wrong(swapped, "num ((?i ?j) ((-> ?i bit) (-> ?j num)))", "num ()", "bit ()", "num ()")

    def test_given_of_a_ring_that_stands_in_the_names_outside(self):
        text = "(fun y (ring ((f x y)) f))"
        self.let_by(text, "(-> ?y (-> num ?y)) ()", "(-> num ?y) ((?x) ((-> ?x ?y)))", "?y ()", "(-> num ?y) (num)")
        self.wrong(text, "(-> ?y (-> num bit)) ()", "(-> num bit) ((?x ?y) ((-> ?x ?y)))", "?y ()", "(-> num bit) (num bit)")
        self.wrong("(ring ((f x x)) 5)", "num ((?a) ((-> ?a ?a)))", "?a ()", "num ()")
        self.let_by("(ring ((f x x)) 5)", "num ((?c) ((-> ?c ?c)))", "?c ()", "num ()")
        self.let_by("(ring ((f x x)) 5)", "num ((?a) ((-> ?a ?a)))", "?a ()", "num ()", names={})

    def test_given_of_a_ring_that_stands_in_a_name_that_the_ring_hides(self):
        text = "(fun f (ring ((f x x)) 5))"
        self.wrong(text, "(-> ?q num) ()", "num ((?q) ((-> ?q ?q)))", "?q ()", "num ()")
        self.let_by(text, "(-> ?q num) ()", "num ((?r) ((-> ?r ?r)))", "?r ()", "num ()")
        self.wrong("(ring ((v x x)) 5)", "num ((?a) ((-> ?a ?a)))", "?a ()", "num ()", names={"v": scheme("", "?a")})
        self.let_by("(ring ((v x x)) 5)", "num ((?a) ((-> ?a ?a)))", "?a ()", "num ()", names={"v": scheme("?a", "(list ?a)")})

    def test_x_that_hides_an_f(self):
        self.let_by("(ring ((f f f)) 5)", "num (() ((-> num num)))", "num ()", "num ()")
        self.wrong("(ring ((f f f)) 5)", "num (() ((-> num (-> num num))))", "(-> num num) ()", "num ()")
        self.let_by("(ring ((f g (plus g 1)) (g f f)) 5)", "num (() ((-> num num) (-> bit bit)))", "num ()", "num ()", "num ()", "bit ()", "num ()")

    def test_tags(self):
        self.let_by("On", "bit ()")
        self.let_by("Nil", "(list num) ()")
        self.let_by("(Cons 1 Nil)", "(list num) ()", "num ()", "(list num) ()")
        self.let_by("(Odd 1)", "(odd bit ?a) ()", "num ()")
        self.wrong("On", "num ()")
        self.wrong("On", "?0 ()")
        self.wrong("On", "bit (num)")
        self.wrong("Nil", "(list num) (num)")
        self.wrong("Nil", "list ()")
        self.wrong("Nil", "(list num num) ()")
        self.wrong("Nil", "(box num) ()")
        self.wrong("Nil", "?a ()")
        self.wrong("(Cons 1 Nil)", "(list num) ()", "num ()", "(list bit) ()")
        self.wrong("(Cons 1 Nil)", "(list bit) ()", "num ()", "(list bit) ()")
        self.wrong("(Cons 1 Nil)", "(list bit) ()", "num ()", "(list num) ()")
        self.wrong("(Cons 1 Nil)", "(list num) (num)", "num ()", "(list num) ()")
        self.wrong("(Cons 1 Nil)", "(box num) ()", "num ()", "(list num) ()")

    def test_cases(self):
        text = "(case (Cons 1 Nil) ((Nil) 0) ((Cons h t) h))"
        rows = ["num ()", "(list num) ()", "num ()", "(list num) ()", "num ()", "num ()"]
        self.let_by(text, *rows)
        self.wrong(text, "bit ()", *rows[1:])
        self.wrong(text, "num (num)", *rows[1:])
        self.wrong(text, *rows[:5], "bit ()")
        self.wrong("(case Nil ((Nil) On) ((Cons h t) h))", "bit ()", "(list num) ()", "bit ()", "num ()")
        self.let_by("(case Nil ((Nil) On) ((Cons h t) h))", "bit ()", "(list bit) ()", "bit ()", "bit ()")
        self.wrong("(case Nil ((Nil) On) ((Cons h t) 1))", "bit ()", "(list num) ()", "bit ()", "num ()")
        self.wrong("(case Nil ((Nil) On) ((Cons h t) 1))", "num ()", "(list num) ()", "bit ()", "num ()")
        self.wrong("(case 5 ((Box x) 1))", "num ()", "num ()", "num ()")
        self.wrong("(fun x (case x ((Box x) 1)))", "(-> num num) ()", "num ()", "num ()", "num ()")
        self.let_by("(fun x (case x ((Box x) 1)))", "(-> (box ?0) num) ()", "num ()", "(box ?0) ()", "num ()")
        self.wrong("(fun x (case x ((Box x) x)))", "(-> (box num) (box num)) ()", "(box num) ()", "(box num) ()", "(box num) ()")

    def test_an_arm_s_names_have_no_variables_of_their_own(self):
        text = "(case (Box (fun x x)) ((Box i) (call i 1)))"
        self.let_by(text, "num ()", "(box (-> num num)) ()", "(-> num num) ()", "num ()", "num ()", "(-> num num) ()", "num ()")
        self.wrong(text, "num ()", "(box (-> ?i ?i)) ()", "(-> ?i ?i) ()", "?i ()", "num ()", "(-> num num) (num)", "num ()")

    def test_records(self):
        self.let_by("(make pair 1 On)", "(pair num bit) ()", "num ()", "bit ()")
        self.wrong("(make pair 1 On)", "(pair bit num) ()", "num ()", "bit ()")
        self.wrong("(make pair 1 On)", "(pair num bit) (num bit)", "num ()", "bit ()")
        self.wrong("(make spot 1 On)", "spot ()", "num ()", "bit ()")
        self.wrong("(make spot 1 2)", "(pair num num) ()", "num ()", "num ()")
        self.let_by("(pick two (make pair 1 On))", "bit ()", "(pair num bit) ()", "num ()", "bit ()")
        self.wrong("(pick two (make pair 1 On))", "num ()", "(pair num bit) ()", "num ()", "bit ()")
        self.wrong("(pick two (make pair 1 On))", "bit (bit)", "(pair num bit) ()", "num ()", "bit ()")
        self.wrong("(pick left (make pair 1 On))", "num ()", "(pair num bit) ()", "num ()", "bit ()")

    def test_numbers_of_two_and_if(self):
        for word in ("plus", "minus", "times", "less"):
            text = "(" + word + " 1 2)"
            self.let_by(text, "num ()", "num ()", "num ()")
            self.wrong(text, "bit ()", "num ()", "num ()")
            self.wrong(text, "num (num)", "num ()", "num ()")
            self.wrong(text.replace("2", "On"), "num ()", "num ()", "bit ()")
            self.wrong(text.replace("1", "On"), "num ()", "bit ()", "num ()")
        self.let_by("(if 1 On Off)", "bit ()", "num ()", "bit ()", "bit ()")
        self.wrong("(if 1 On Off)", "num ()", "num ()", "bit ()", "bit ()")
        self.wrong("(if 1 On Off)", "bit (bit)", "num ()", "bit ()", "bit ()")
        self.wrong("(if On On Off)", "bit ()", "bit ()", "bit ()", "bit ()")
        self.wrong("(if 1 On 2)", "bit ()", "num ()", "bit ()", "num ()")
        self.wrong("(if 1 2 On)", "bit ()", "num ()", "num ()", "bit ()")

    def test_a_name_that_has_no_scheme(self):
        self.assertIs(takes(SORTS, {}, "x", [("num", ())]), False)


class Forms(Looking):

    def test_rows_too_few_or_too_many(self):
        text = "(plus 1 2)"
        for count in (0, 1, 2, 4, 5):
            self.wrong(text, *["num ()"] * count)
        self.let_by(text, *["num ()"] * 3)
        self.wrong("5")
        self.wrong("5", "num ()", "num ()")

    def test_rows_exchanged(self):
        self.wrong("(make pair 1 On)", "(pair num bit) ()", "bit ()", "num ()")
        self.wrong("(make pair 1 On)", "num ()", "(pair num bit) ()", "bit ()")

    def test_what_is_no_list_of_rows(self):
        for paper in (None, (), (("num", ()),), "num", 5, {}, [None], ["num"], [("num",)], [("num", (), ())], [["num", ()]], [()], [(5, ())]):
            self.assertIs(takes(SORTS, {}, 5, paper), False)
        self.assertIs(takes(SORTS, {}, 5, [("num", ())]), True)

    def test_kinds_of_no_form(self):
        for kind in (5, None, (), ("list",), ("->", "num"), "Box", ("num", "num"), ["num"], "fun", ("->", "num", "num", "num")):
            self.assertIs(takes(SORTS, {}, ("fun", "x", "x"), [(("->", kind, kind), ()), (kind, ())]), False)

    def test_variables_of_any_signs(self):
        for name in ("?0", "?", "?->", "?A.b", "?abcdefghijkl", "?x y"):
            self.assertIs(takes(SORTS, {}, ("fun", "x", "x"), [(("->", name, name), ()), (name, ())]), True)
            rows = [("num", (name,)), (("->", name, name), ()), (name, ()), (("->", "num", "num"), ("num",)), ("num", ())]
            self.assertIs(takes(SORTS, {}, phrase("(let i (fun x x) (call i 5))"), [rows[0]] + rows[1:3] + [("num", ())] + rows[3:]), True)

    def test_the_given_of_other_phrases(self):
        for text in ("5", "On", "(fun x 5)", "(call inc 5)", "(Cons 1 Nil)", "(case On ((On) 1) ((Off) 2))", "(make spot 1 2)",
                     "(pick left (make spot 1 2))", "(plus 1 2)", "(if 1 2 3)", "n", "id", "(let x 1 2)", "(ring ((f x 1)) 2)"):
            paper = found(SORTS, NAMES, phrase(text))
            for given in (("num",), ("?z",), (("?z",), ("num",)), ((), ()), ((), (("->", "?z", "num"),)), ("?z", "?z")):
                changed = [(paper[0][0], given)] + paper[1:]
                with self.subTest(text=text, given=given):
                    wanted = plain_takes(PROGRAM, NAMES, phrase(text), changed)
                    self.assertIs(takes(SORTS, NAMES, phrase(text), changed), wanted)


class Papers(Looking):

    def some_papers(self, seed, count):
        choice = random.Random(seed)
        for turn in range(count):
            names = NAMES if turn % 2 else {}
            if turn % 2:
                made = some_phrase(choice, list(names), choice.choice((1, 2, 3)))
            else:
                made = phrase_of(choice, {}, some_kind(choice, 2), choice.choice((2, 3, 4)))
            if plain_found(PROGRAM, names, made) is not None:
                yield choice, names, made, found(SORTS, names, made)

    def all_put(self, made, paper, by):
        told = []
        for (kind, given), (inner, places) in zip(paper, laid_out(made)):
            if isinstance(inner, tuple) and inner[0] == "ring":
                given = (tuple(put(one, by) for one in given[0]), tuple(put(one, by) for one in given[1]))
            else:
                given = tuple(put(one, by) for one in given)
            told.append((put(kind, by), given))
        return told

    def given_in(self, made, paper):
        told = []
        for (kind, given), (inner, places) in zip(paper, laid_out(made)):
            if isinstance(inner, tuple) and inner[0] == "let":
                told += given
            if isinstance(inner, tuple) and inner[0] == "ring":
                told += given[0]
        return told

    def all_in(self, made, paper):
        told = []
        for (kind, given), (inner, places) in zip(paper, laid_out(made)):
            is_ring = isinstance(inner, tuple) and inner[0] == "ring"
            for one in (kind,) + (given[0] + given[1] if is_ring else given):
                told += standing(one)
        return sorted(set(told))

    def test_kinds_put_for_the_variables_of_the_widest(self):
        count = 0
        for choice, names, made, paper in self.some_papers(31, 600):
            given = self.given_in(made, paper)
            loose = [one for one in self.all_in(made, paper) if one not in given and one[1:].isdigit()]
            by = {one: choice.choice(("num", ("list", "bit"), "?other", ("->", "?other", "num"))) for one in loose}
            told = self.all_put(made, paper, by)
            count += told != paper
            self.assertIs(takes(SORTS, names, made, told), True, (made, told))
        self.assertGreater(count, 50)

    def test_other_names_of_the_variables(self):
        for choice, names, made, paper in self.some_papers(32, 300):
            by = {one: one + "z" for one in self.all_in(made, paper) if one[1:].isdigit()}
            self.assertIs(takes(SORTS, names, made, self.all_put(made, paper, by)), True)

    def test_one_row_changed(self):
        told = {True: 0, False: 0}
        for choice, names, made, paper in self.some_papers(33, 150):
            phrases = [inner for inner, places in laid_out(made)]
            for changed in changed_papers(choice, phrases, paper, 120):
                wanted = plain_takes(PROGRAM, names, made, changed)
                self.assertIs(takes(SORTS, names, made, changed), wanted, (made, changed))
                told[wanted] += 1
        self.assertGreater(told[True], 20)
        self.assertGreater(told[False], 2000)

    def test_what_is_handed_in_stays(self):
        names = copy.deepcopy(NAMES)
        asked = phrase("(let i id (ring ((f x (call i x))) (make pair (call f 1) (call i On))))")
        paper = found(SORTS, names, asked)
        kept = copy.deepcopy(paper)
        wrong = paper[:-1] + [("num", ())]
        for turn in range(3):
            self.assertIs(takes(SORTS, names, asked, paper), True)
            self.assertIs(takes(SORTS, names, asked, wrong), False)
            self.assertIs(takes(SORTS, names, asked, []), False)
        self.assertEqual(paper, kept)
        self.assertEqual(names, NAMES)
        paper.pop()
        self.assertIs(takes(SORTS, names, asked, paper), False)
        self.assertIs(takes(SORTS, names, asked, kept), True)

    def test_large_kinds(self):
        kind = part_of("(-> num num)")
        for level in range(9):
            kind = ("pair", kind, kind)
        self.assertIs(takes(SORTS, {}, ("fun", "x", "x"), [(("->", kind, kind), ()), (kind, ())]), True)
        deep = "num"
        for level in range(120):
            deep = ("list", deep)
        self.assertIs(takes(SORTS, {}, ("fun", "x", "x"), [(("->", deep, deep), ()), (deep, ())]), True)
        self.assertIs(takes(SORTS, {}, ("fun", "x", "x"), [(("->", deep, deep), ()), (("list", deep), ())]), False)


if __name__ == "__main__":
    unittest.main()
