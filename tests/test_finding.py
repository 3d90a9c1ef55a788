import copy
import random
import unittest

from facework.errors import NoKind
from facework.finding import found
from facework.kinds import instance, put, variables
from facework.looking import takes
from facework.things import things_of
from helping import Case, part_of, parts_of
from plain import phrase_of, plain_found, plain_takes, some_kind, some_phrase
from sorted_names import NAMES, PROGRAM, SORTS, scheme


def phrase(text):
    return things_of(text)[0]


class Finding(Case):

    def paper(self, text, *rows, names=NAMES):
        """The widest paper has just these rows, each a text of a kind and of what is given."""
        with self.subTest(text):
            told = found(SORTS, names, phrase(text))
            self.assertIs(type(told), list)
            self.assertEqual(told, [parts_of(row) for row in rows])
            self.assertEqual(told, plain_found(PROGRAM, names, phrase(text)))
            self.assertIs(takes(SORTS, names, phrase(text), told), True)

    def kind(self, text, wanted, names=NAMES):
        with self.subTest(text):
            told = found(SORTS, names, phrase(text))
            self.assertEqual(told[0][0], part_of(wanted))
            self.assertEqual(told, plain_found(PROGRAM, names, phrase(text)))
            self.assertIs(takes(SORTS, names, phrase(text), told), True)

    def none(self, *texts, names=NAMES):
        for text in texts:
            with self.subTest(text):
                self.refused("NoKind", found, SORTS, names, phrase(text))
                self.assertIsNone(plain_found(PROGRAM, names, phrase(text)))


class Forms(Finding):

    def test_numbers(self):
        for text in ("0", "5", "-7", "9" * 30):
            self.paper(text, "num ()")
        self.assertEqual(found(SORTS, {}, 10 ** 59), [("num", ())])

    def test_names_without_variables(self):
        self.paper("n", "num ()")
        self.paper("inc", "(-> num num) ()")
        self.paper("P.t", "Q.u ()")

    def test_names_with_variables_that_are_given(self):
        self.paper("id", "(-> ?0 ?0) (?0)")
        # What is given stands in the order of the scheme's variables, not of the kind's.
        self.paper("two", "(-> ?0 (-> ?1 ?0)) (?1 ?0)")
        self.paper("P.get", "(-> (Q.s ?0) (list ?0)) (?0)")
        # A variable of the scheme that doesn't stand in its kind is given too.
        self.paper("more", "(-> ?0 ?0) (?0 ?1)")
        self.paper("(call id 5)", "num ()", "(-> num num) (num)", "num ()")
        self.paper("(call id inc)", "(-> num num) ()", "(-> (-> num num) (-> num num)) ((-> num num))", "(-> num num) ()")

    def test_names_with_variables_that_are_not_given(self):
        self.paper("v", "?a ()")
        self.paper("w", "(-> ?a ?b) ()")
        self.paper("mix", "(-> ?0 (-> ?a ?0)) (?0)")
        self.paper("(call w v)", "?b ()", "(-> ?a ?b) ()", "?a ()")
        self.paper("(fun x v)", "(-> ?0 ?a) ()", "?a ()")
        self.paper("(call id v)", "?a ()", "(-> ?a ?a) (?a)", "?a ()")
        self.paper("(fun x (call w x))", "(-> ?a ?b) ()", "?b ()", "(-> ?a ?b) ()", "?a ()")
        # Nothing is put for them, not even one for the other.
        self.none("(plus v 1)", "(call w 5)", "(call v v)", "(call v 1)", "(if 0 v 1)", "(call w (call w v))", "(call w inc)")
        self.none("(fun x (if 0 (call w x) v))", "(Cons v (Cons 1 Nil))", "(call (call mix v) 1)")

    def test_the_same_variable_in_two_names(self):
        names = {"x": scheme("?a", "(-> ?a ?a)"), "y": scheme("", "?a"), "z": scheme("?b", "(-> ?b ?a)"), "u": scheme("", "?b")}
        self.paper("(call x y)", "?a ()", "(-> ?a ?a) (?a)", "?a ()", names=names)
        self.paper("(call z u)", "?a ()", "(-> ?b ?a) (?b)", "?b ()", names=names)
        self.paper("(if 0 y (call z y))", "?a ()", "num ()", "?a ()", "?a ()", "(-> ?a ?a) (?a)", "?a ()", names=names)
        self.paper("(fun y (call x y))", "(-> ?0 ?0) ()", "?0 ()", "(-> ?0 ?0) (?0)", "?0 ()", names=names)
        self.none("(if 0 y u)", "(if 0 (call z 1) u)", names=names)

    def test_given_variables_of_any_signs(self):
        names = {"x": (("?0", "?1"), ("->", "?0", "?1")), "y": (("?2",), ("list", "?2"))}
        self.paper("(call x y)", "?0 ()", "(-> (list ?1) ?0) ((list ?1) ?0)", "(list ?1) (?1)", names=names)
        self.paper("(let z x (call z z))", "?0 (?1 ?2)", "(-> ?1 ?2) (?1 ?2)", "?0 ()",
                   "(-> (-> ?3 ?4) ?0) ((-> ?3 ?4) ?0)", "(-> ?3 ?4) (?3 ?4)", names=names)

    def test_fun(self):
        self.paper("(fun x x)", "(-> ?0 ?0) ()", "?0 ()")
        self.paper("(fun x 5)", "(-> ?0 num) ()", "num ()")
        self.paper("(fun x (fun y x))", "(-> ?0 (-> ?1 ?0)) ()", "(-> ?1 ?0) ()", "?0 ()")
        self.paper("(fun x (fun x x))", "(-> ?0 (-> ?1 ?1)) ()", "(-> ?1 ?1) ()", "?1 ()")
        self.paper("(fun n n)", "(-> ?0 ?0) ()", "?0 ()")
        self.paper("(fun x (plus x x))", "(-> num num) ()", "num ()", "num ()", "num ()")

    def test_x_of_fun_has_one_kind_at_all_its_places(self):
        self.none("(fun x (plus (call x 1) (call x On)))", "(fun f (make pair (call f 1) (call f On)))", "(fun x (if x x On))")
        self.none("(call (fun i (make pair (call i 1) (call i On))) (fun x x))", "(fun x (call x x))")
        self.kind("(let i (fun x x) (make pair (call i 1) (call i On)))", "(pair num bit)")

    def test_call(self):
        self.paper("(call inc 5)", "num ()", "(-> num num) ()", "num ()")
        self.paper("(fun f (call f 5))", "(-> (-> num ?0) ?0) ()", "?0 ()", "(-> num ?0) ()", "num ()")
        self.paper("(call (fun x x) On)", "bit ()", "(-> bit bit) ()", "bit ()", "bit ()")
        self.kind("(fun f (fun g (fun x (call f (call g x)))))", "(-> (-> ?0 ?1) (-> (-> ?2 ?0) (-> ?2 ?1)))")
        self.none("(call 5 5)", "(call On 5)", "(call inc On)", "(call inc inc)", "(call (fun x (plus x 1)) Nil)", "(call Nil Nil)")
        self.none("(call (call inc 1) 1)", "(call (make spot 1 2) 1)", "(fun x (call (call x 1) (call x On)))")

    def test_let(self):
        self.paper("(let x 5 x)", "num ()", "num ()", "num ()")
        self.paper("(let x (fun y y) x)", "(-> ?0 ?0) (?1)", "(-> ?1 ?1) ()", "?1 ()", "(-> ?0 ?0) (?0)")
        self.paper("(let x (fun y y) 5)", "num (?0)", "(-> ?0 ?0) ()", "?0 ()", "num ()")
        self.paper(
            "(let i (fun y y) (call (call i i) 5))", "num (?0)", "(-> ?0 ?0) ()", "?0 ()", "num ()", "(-> num num) ()",
            "(-> (-> num num) (-> num num)) ((-> num num))", "(-> num num) (num)", "num ()",
        )
        self.paper("(let k (fun x (fun y x)) 5)", "num (?0 ?1)", "(-> ?0 (-> ?1 ?0)) ()", "(-> ?1 ?0) ()", "?0 ()", "num ()")
        self.none("(let x (plus 1 On) 5)", "(let x 5 (call x 1))", "(let x (fun y (call y y)) 5)", "(let x On (plus x 1))")

    def test_given_in_the_order_of_the_first_standing_in_the_kind(self):
        text = "(let k (fun f (fun x (call f x))) 5)"
        self.paper(text, "num (?0 ?1)", "(-> (-> ?0 ?1) (-> ?0 ?1)) ()", "(-> ?0 ?1) ()", "?1 ()", "(-> ?0 ?1) ()", "?0 ()", "num ()")
        self.paper("(let k two k)", "(-> ?0 (-> ?1 ?0)) (?2 ?3)", "(-> ?2 (-> ?3 ?2)) (?3 ?2)", "(-> ?0 (-> ?1 ?0)) (?0 ?1)")

    def test_a_variable_of_a_let_that_stands_in_the_names_there(self):
        self.paper("(fun x (let y x y))", "(-> ?0 ?0) ()", "?0 ()", "?0 ()", "?0 ()")
        self.paper(
            "(fun x (let y (fun z x) y))", "(-> ?0 (-> ?1 ?0)) ()", "(-> ?1 ?0) (?2)", "(-> ?2 ?0) ()", "?0 ()", "(-> ?1 ?0) (?1)",
        )
        self.paper(
            "(fun f (let g (fun x (call f x)) g))", "(-> (-> ?0 ?1) (-> ?0 ?1)) ()", "(-> ?0 ?1) ()", "(-> ?0 ?1) ()",
            "?1 ()", "(-> ?0 ?1) ()", "?0 ()", "(-> ?0 ?1) ()",
        )
        self.paper("(let y v y)", "?a ()", "?a ()", "?a ()")
        self.paper("(let y mix y)", "(-> ?0 (-> ?a ?0)) (?1)", "(-> ?1 (-> ?a ?1)) (?1)", "(-> ?0 (-> ?a ?0)) (?0)")
        self.none("(fun x (let y x (make pair (plus y 1) (call y 1))))", "(fun f (let g (fun x (call f x)) (make pair (call g 1) (call g On))))")

    def test_a_variable_of_a_let_in_a_name_that_another_one_hides(self):
        # The outer x is hidden, y still holds its variable.
        self.paper(
            "(fun x (let y x (fun x (let z y z))))", "(-> ?0 (-> ?1 ?0)) ()", "(-> ?1 ?0) ()", "?0 ()", "(-> ?1 ?0) ()",
            "?0 ()", "?0 ()", "?0 ()",
        )
        # x of let hides a name only behind its first phrase.
        self.paper("(fun x (let x x x))", "(-> ?0 ?0) ()", "?0 ()", "?0 ()", "?0 ()")
        self.paper("(fun x (let x (fun y x) x))", "(-> ?0 (-> ?1 ?0)) ()", "(-> ?1 ?0) (?2)", "(-> ?2 ?0) ()", "?0 ()", "(-> ?1 ?0) (?1)")
        # A name that is hidden has no say in what is given of another one's kind.
        self.paper("(fun v (let y (fun z z) y))", "(-> ?0 (-> ?1 ?1)) ()", "(-> ?1 ?1) (?2)", "(-> ?2 ?2) ()", "?2 ()", "(-> ?1 ?1) (?1)")

    def test_a_variable_of_a_let_that_is_a_scheme_s_own(self):
        names = {"x": scheme("?a", "(-> ?a ?a)"), "y": scheme("", "?a")}
        self.paper("(let z x z)", "(-> ?0 ?0) (?1)", "(-> ?1 ?1) (?1)", "(-> ?0 ?0) (?0)", names=names)
        self.kind("(let i (fun x x) (let j i (make pair (call j 1) (call j On))))", "(pair num bit)")
        self.kind("(let i (fun x x) (let j (call i i) (make pair (call j 1) (call j On))))", "(pair num bit)")

    def test_a_let_within_a_let(self):
        self.kind("(let p (fun x (let q (fun y (make pair x y)) (make pair (call q 1) (call q On)))) (call p Nil))",
                  "(pair (pair (list ?0) num) (pair (list ?0) bit))")
        self.kind("(let a (fun x x) (let b (make pair a a) (let c (make pair b b) (pick one (pick two c)))))", "(-> ?0 ?0)")
        self.paper(
            "(let x (let y (fun z z) y) x)", "(-> ?0 ?0) (?1)", "(-> ?1 ?1) (?2)", "(-> ?2 ?2) ()", "?2 ()", "(-> ?1 ?1) (?1)",
            "(-> ?0 ?0) (?0)",
        )

    def test_rows_that_no_kind_outside_hangs_on(self):
        self.paper("(let x (call (fun y 5) (fun z z)) x)", "num ()", "num ()", "(-> (-> ?0 ?0) num) ()", "num ()",
                   "(-> ?0 ?0) ()", "?0 ()", "num ()")
        self.paper("(call (fun y 5) Nil)", "num ()", "(-> (list ?0) num) ()", "num ()", "(list ?0) ()")


class Rings(Finding):

    def test_one_function(self):
        self.paper("(ring ((f x x)) f)", "(-> ?0 ?0) ((?1) ((-> ?1 ?1)))", "?1 ()", "(-> ?0 ?0) (?0)")
        self.paper("(ring ((f x 5)) 7)", "num ((?0) ((-> ?0 num)))", "num ()", "num ()")
        self.paper("(ring ((f x (plus x 1))) (call f 2))", "num (() ((-> num num)))", "num ()", "num ()", "num ()",
                   "num ()", "(-> num num) ()", "num ()")
        self.paper("(ring ((f x (call f x))) f)", "(-> ?0 ?1) ((?2 ?3) ((-> ?2 ?3)))", "?3 ()", "(-> ?2 ?3) ()", "?2 ()",
                   "(-> ?0 ?1) (?0 ?1)")

    def test_functions_that_call_one_another(self):
        self.paper(
            "(ring ((f x (call g x)) (g y (plus (call f y) 1))) (call g On))",
            "num ((?0) ((-> ?0 num) (-> ?0 num)))", "num ()", "(-> ?0 num) ()", "?0 ()",
            "num ()", "num ()", "(-> ?0 num) ()", "?0 ()", "num ()", "num ()", "(-> bit num) (bit)", "bit ()",
        )
        self.paper(
            "(ring ((a x (call b x)) (b x (call c x)) (c x (call d x)) (d x x)) (call d 1))",
            "num ((?0) ((-> ?0 ?0) (-> ?0 ?0) (-> ?0 ?0) (-> ?0 ?0)))", "?0 ()", "(-> ?0 ?0) ()", "?0 ()", "?0 ()", "(-> ?0 ?0) ()", "?0 ()",
            "?0 ()", "(-> ?0 ?0) ()", "?0 ()", "?0 ()", "num ()", "(-> num num) (num)", "num ()",
        )
        self.kind("(ring ((a x (call b x)) (b y (call c y)) (c z (if z (call a (minus z 1)) On))) a)", "(-> num bit)")

    def test_each_function_has_all_variables_that_the_ring_gives(self):
        self.paper("(ring ((f x x) (g y 1)) f)", "(-> ?0 ?0) ((?1 ?2) ((-> ?1 ?1) (-> ?2 num)))", "?1 ()", "num ()", "(-> ?0 ?0) (?0 ?3)")
        self.paper("(ring ((g y 1) (f x x)) f)", "(-> ?0 ?0) ((?1 ?2) ((-> ?1 num) (-> ?2 ?2)))", "num ()", "?2 ()", "(-> ?0 ?0) (?3 ?0)")

    def test_one_kind_within_the_ring_and_many_behind_it(self):
        self.kind("(ring ((f x x)) (make pair (call f 1) (call f On)))", "(pair num bit)")
        self.none("(ring ((f x x) (g y (make pair (call f 1) (call f On)))) f)", "(ring ((f x (make pair (call f 1) (call f On)))) f)")
        self.none("(ring ((f x (call f f))) f)", "(ring ((f x f)) f)", "(ring ((f x (call x f))) (call f f))")
        self.kind("(ring ((f x x) (g y (call f 1))) (call f 1))", "num")
        self.none("(ring ((f x x) (g y (call f 1))) (call f On))")

    def test_variables_that_stand_in_the_names_outside(self):
        self.paper("(fun y (ring ((f x y)) f))", "(-> ?0 (-> ?1 ?0)) ()", "(-> ?1 ?0) ((?2) ((-> ?2 ?0)))", "?0 ()", "(-> ?1 ?0) (?1)")
        self.paper("(ring ((f x v)) f)", "(-> ?0 ?a) ((?1) ((-> ?1 ?a)))", "?a ()", "(-> ?0 ?a) (?0)")
        self.paper("(ring ((f x (call w x))) f)", "(-> ?a ?b) (() ((-> ?a ?b)))", "?b ()", "(-> ?a ?b) ()", "?a ()", "(-> ?a ?b) ()")
        self.none("(fun y (ring ((f x (if 0 x y))) (make pair (call f 1) (call f On))))")

    def test_variables_that_stand_in_hidden_names_outside(self):
        self.paper(
            "(fun f (let g f (ring ((f x (call g x))) f)))", "(-> (-> ?0 ?1) (-> ?0 ?1)) ()", "(-> ?0 ?1) ()", "(-> ?0 ?1) ()",
            "(-> ?0 ?1) (() ((-> ?0 ?1)))", "?1 ()", "(-> ?0 ?1) ()", "?0 ()", "(-> ?0 ?1) ()",
        )
        self.paper("(fun f (ring ((f x x)) f))", "(-> ?0 (-> ?1 ?1)) ()", "(-> ?1 ?1) ((?2) ((-> ?2 ?2)))", "?2 ()", "(-> ?1 ?1) (?1)")

    def test_x_that_hides_an_f(self):
        self.paper("(ring ((f f f)) f)", "(-> ?0 ?0) ((?1) ((-> ?1 ?1)))", "?1 ()", "(-> ?0 ?0) (?0)")
        self.kind("(ring ((f g (plus g 1)) (g f (call f On))) (make pair f g))", "(pair (-> num num) (-> (-> bit ?0) ?0))")

    def test_what_is_within_a_ring_can_be_a_let_or_a_ring(self):
        self.kind("(ring ((map f (fun l (case l ((Nil) Nil) ((Cons h t) (Cons (call f h) (call (call map f) t))))))) map)",
                  "(-> (-> ?0 ?1) (-> (list ?0) (list ?1)))")
        self.kind("(ring ((f x (let i (fun y y) (ring ((g z (make pair x (call i z)))) (call g x))))) f)", "(-> ?0 (pair ?0 ?0))")

    def test_none(self):
        self.none("(ring ((f x (plus x On))) 5)", "(ring ((f x (call x x))) 5)", "(ring ((f x x)) (plus f 1))")
        self.none("(ring ((f x 1) (g y (call (call f y) y))) 5)")


class Sorted(Finding):

    def test_tags_alone(self):
        self.paper("On", "bit ()")
        self.paper("Nil", "(list ?0) ()")
        self.paper("Sa", "(six ?0 ?1) ()")

    def test_tags_with_phrases(self):
        self.paper("(Cons 1 Nil)", "(list num) ()", "num ()", "(list num) ()")
        self.paper("(Sb On)", "(six bit ?0) ()", "bit ()")
        self.paper("(Sc On)", "(six ?0 bit) ()", "bit ()")
        self.paper("(Odd 1)", "(odd ?0 ?1) ()", "num ()")
        self.paper("(fun x (Sf x 1 x inc))", "(-> num (six num num)) ()", "(six num num) ()", "num ()", "num ()", "num ()", "(-> num num) ()")
        self.paper("(Se (Sb 1))", "(six num ?0) ()", "(six num ?0) ()", "num ()")
        self.paper("(fun x (Box x))", "(-> ?0 (box ?0)) ()", "(box ?0) ()", "?0 ()")
        self.none("(Cons 1 (Cons On Nil))", "(Cons 1 1)", "(Sd On)", "(Sf 1 2 On inc)", "(Sf 1 On 1 inc)", "(fun x (Cons x x))", "(Se (Box 1))")

    def test_cases(self):
        self.paper("(case On ((On) 1) ((Off) 2))", "num ()", "bit ()", "num ()", "num ()")
        self.paper("(fun b (case b ((Box x) x)))", "(-> (box ?0) ?0) ()", "?0 ()", "(box ?0) ()", "?0 ()")
        self.paper("(fun l (case l ((Nil) 0) ((Cons h t) h)))", "(-> (list num) num) ()", "num ()", "(list num) ()", "num ()", "num ()")
        self.paper("(fun l (case l ((Cons h t) t) ((Nil) Nil)))", "(-> (list ?0) (list ?0)) ()", "(list ?0) ()", "(list ?0) ()",
                   "(list ?0) ()", "(list ?0) ()")
        self.kind("(fun o (case o ((Odd x) x)))", "(-> (odd ?0 ?1) num)")

    def test_a_case_of_six_arms(self):
        text = "(fun s (case s ((Sa) 0) ((Sb x) x) ((Sc y) 1) ((Sd z) z) ((Se s) 2) ((Sf a b c f) (call f a))))"
        self.kind(text, "(-> (six num num) num)")
        self.kind(text.replace("(call f a)", "c"), "(-> (six num ?0) num)")
        self.none(text.replace("((Sc y) 1)", "((Sc y) (call y 1))"), text.replace("(call f a)", "(call f f)"), text.replace("((Se s) 2)", "((Se s) s)"))

    def test_arms_that_hide_names(self):
        self.paper("(fun x (case (Box 1) ((Box x) x)))", "(-> ?0 num) ()", "num ()", "(box num) ()", "num ()", "num ()")
        self.paper("(fun x (case x ((Box x) x)))", "(-> (box ?0) ?0) ()", "?0 ()", "(box ?0) ()", "?0 ()")
        self.kind("(fun l (case l ((Nil) l) ((Cons l m) m)))", "(-> (list ?0) (list ?0))")

    def test_names_of_arms_have_one_kind(self):
        self.none("(case (Box (fun x x)) ((Box i) (make pair (call i 1) (call i On))))")
        self.none("(fun b (case b ((Box i) (let j i (make pair (call j 1) (call j On))))))")

    def test_cases_that_have_none(self):
        self.none("(case On ((On) 1) ((Off) On))", "(case 1 ((On) 1) ((Off) 2))", "(case Nil ((On) 1) ((Off) 2))", "(case inc ((Box x) x))")
        self.none("(case (Cons 1 Nil) ((Nil) On) ((Cons h t) h))", "(case (Cons On Nil) ((Nil) 0) ((Cons h t) h))")
        self.none("(fun x (case x ((Box y) (call y x))))")

    def test_records(self):
        self.paper("(make spot 1 2)", "spot ()", "num ()", "num ()")
        self.paper("(make pair 1 On)", "(pair num bit) ()", "num ()", "bit ()")
        self.paper("(make pair Nil (fun x x))", "(pair (list ?0) (-> ?1 ?1)) ()", "(list ?0) ()", "(-> ?1 ?1) ()", "?1 ()")
        self.paper("(make act inc)", "(act num) ()", "(-> num num) ()")
        self.none("(make spot 1 On)", "(make spot inc 1)", "(make act (fun x (Box x)))", "(make act 5)")

    def test_picks(self):
        self.paper("(pick left (make spot 1 2))", "num ()", "spot ()", "num ()", "num ()")
        self.paper("(fun p (pick one p))", "(-> (pair ?0 ?1) ?0) ()", "?0 ()", "(pair ?0 ?1) ()")
        self.paper("(fun p (pick two p))", "(-> (pair ?0 ?1) ?1) ()", "?1 ()", "(pair ?0 ?1) ()")
        self.paper("(fun a (pick go a))", "(-> (act ?0) (-> ?0 ?0)) ()", "(-> ?0 ?0) ()", "(act ?0) ()")
        self.none("(pick left 5)", "(pick left (make pair 1 2))", "(pick one (make spot 1 2))", "(pick one Nil)", "(plus 1 (pick two (make pair 1 On)))")

    def test_numbers_of_two(self):
        for word in ("plus", "minus", "times", "less"):
            self.paper("(" + word + " 1 2)", "num ()", "num ()", "num ()")
            self.paper("(fun x (fun y (" + word + " x y)))", "(-> num (-> num num)) ()", "(-> num num) ()", "num ()", "num ()", "num ()")
            self.none("(" + word + " 1 On)", "(" + word + " On 1)", "(" + word + " inc 1)", "(" + word + " 1 (fun x x))", "(call (" + word + " 1 1) 1)")
            self.none("(case (" + word + " 1 1) ((On) 1) ((Off) 1))", "(fun x (" + word + " x (call x 1)))")

    def test_if(self):
        self.paper("(if 1 On Off)", "bit ()", "num ()", "bit ()", "bit ()")
        self.paper("(fun x (if x x 0))", "(-> num num) ()", "num ()", "num ()", "num ()", "num ()")
        self.paper("(fun x (fun y (if 0 x y)))", "(-> ?0 (-> ?0 ?0)) ()", "(-> ?0 ?0) ()", "?0 ()", "num ()", "?0 ()", "?0 ()")
        self.paper("(if 0 Nil (Cons 1 Nil))", "(list num) ()", "num ()", "(list num) ()", "(list num) ()", "num ()", "(list num) ()")
        self.none("(if On 1 2)", "(if 1 On 2)", "(if 1 2 On)", "(if inc 1 1)", "(fun x (if 1 x (Box x)))", "(if 0 Nil On)")


class Widest(Finding):

    def test_variables_are_numbered_row_by_row(self):
        self.paper(
            "(make pair (fun x (fun y y)) (make pair Nil id))",
            "(pair (-> ?0 (-> ?1 ?1)) (pair (list ?2) (-> ?3 ?3))) ()", "(-> ?0 (-> ?1 ?1)) ()", "(-> ?1 ?1) ()", "?1 ()",
            "(pair (list ?2) (-> ?3 ?3)) ()", "(list ?2) ()", "(-> ?3 ?3) (?3)",
        )
        # In a row the kind comes ahead of what is given.
        self.paper("(let k (fun x (fun y x)) (fun z k))", "(-> ?0 (-> ?1 (-> ?2 ?1))) (?3 ?4)", "(-> ?3 (-> ?4 ?3)) ()", "(-> ?4 ?3) ()",
                   "?3 ()", "(-> ?0 (-> ?1 (-> ?2 ?1))) ()", "(-> ?1 (-> ?2 ?1)) (?1 ?2)")
        self.paper("(call (fun x 1) more)", "num ()", "(-> (-> ?0 ?0) num) ()", "num ()", "(-> ?0 ?0) (?0 ?1)")

    def test_none_at_any_depth(self):
        wrong = phrase("(plus 1 On)")
        right = phrase("(plus 1 1)")
        holders = (
            lambda inner: ("fun", "x", inner),
            lambda inner: ("let", "x", 1, inner),
            lambda inner: ("let", "x", inner, inner) if inner in (wrong, right) else ("let", "x", inner, 1),
            lambda inner: ("ring", (("f", "x", inner),), 1),
            lambda inner: ("case", "On", (("On",), 1), (("Off",), ("call", ("fun", "x", 1), inner))),
            lambda inner: ("make", "pair", 1, inner),
            lambda inner: ("Box", inner),
            lambda inner: ("if", 0, 1, ("call", ("fun", "x", 1), inner)),
        )
        for depth in (1, 5, 90):
            for holder in holders:
                for inner, given in ((wrong, None), (right, True)):
                    made = inner
                    for level in range(depth):
                        made = holder(made)
                    if given:
                        self.assertIs(takes(SORTS, {}, made, found(SORTS, {}, made)), True)
                    else:
                        self.refused("NoKind", found, SORTS, {}, made)

    def test_a_name_that_has_no_scheme(self):
        self.refused("NoKind", found, SORTS, {}, "x")
        self.refused("NoKind", found, SORTS, {"y": scheme("", "num")}, ("fun", "y", "x"))

    def check_some(self, names, made):
        wanted = plain_found(PROGRAM, names, made)
        if wanted is None:
            self.refused("NoKind", found, SORTS, names, made)
            return False
        told = found(SORTS, names, made)
        self.assertEqual(told, wanted)
        self.assertTrue(plain_takes(PROGRAM, names, made, told))
        self.assertIs(takes(SORTS, names, made, told), True)
        return True

    def test_some_phrases(self):
        choice = random.Random(21)
        count = 0
        for turn in range(1500):
            names = NAMES if turn % 2 else {}
            made = some_phrase(choice, list(names), choice.choice((1, 2, 3, 4)))
            count += self.check_some(names, made)
        self.assertGreater(count, 200)

    def test_some_larger_phrases(self):
        choice = random.Random(22)
        count = 0
        for turn in range(400):
            made = phrase_of(choice, {}, some_kind(choice, 2), choice.choice((3, 4, 5, 6)))
            count += self.check_some({}, made)
        self.assertGreater(count, 100)
        self.assertLess(count, 300)

    def test_each_kind_that_right_rows_give_is_an_instance(self):
        # A paper of narrower kinds for the same phrase: kinds put for variables.
        choice = random.Random(23)
        for turn in range(200):
            made = phrase_of(choice, {}, some_kind(choice, 2), 4)
            if plain_found(PROGRAM, {}, made) is None:
                continue
            told = found(SORTS, {}, made)
            wide = told[0][0]
            by = {variable: some_kind(choice, 1) for variable in variables(wide)}
            self.assertIsNotNone(instance(wide, put(wide, by)))
            free = [(put(kind, by), given) for kind, given in told]
            if all(given == () for kind, given in told):
                self.assertIs(takes(SORTS, {}, made, free), True)


class Steady(Finding):

    def test_what_is_handed_in_stays(self):
        names = copy.deepcopy(NAMES)
        asked = phrase("(let y (fun z (call w z)) (ring ((f x (call mix x))) (make pair y f)))")
        kept = copy.deepcopy(asked)
        told = found(SORTS, names, asked)
        self.assertEqual(names, NAMES)
        self.assertEqual(asked, kept)
        self.assertEqual(found(SORTS, names, asked), told)

    def test_a_told_paper_is_the_asker_s_own(self):
        asked = phrase("(let i id (call i 1))")
        told = found(SORTS, NAMES, asked)
        kept = list(told)
        told.append(("num", ()))
        told[0] = None
        self.assertEqual(found(SORTS, NAMES, asked), kept)
        again = found(SORTS, NAMES, asked)
        again.clear()
        self.assertEqual(found(SORTS, NAMES, asked), kept)

    def test_what_is_changed_in_the_names_later_counts_later_alone(self):
        names = {"x": scheme("", "num")}
        self.assertEqual(found(SORTS, names, "x"), [("num", ())])
        names["x"] = scheme("", "bit")
        self.assertEqual(found(SORTS, names, "x"), [("bit", ())])

    def test_what_was_told_ahead_of_a_refusal_is_told_behind_it(self):
        right = [phrase(text) for text in ("(fun x x)", "(let i (fun x x) (call i i))", "(ring ((f x (call f x))) f)", "(Cons 1 Nil)")]
        wrong = [phrase(text) for text in ("(fun x (call x x))", "(plus 1 On)", "(call v v)", "(ring ((f x f)) f)")]
        ahead = [found(SORTS, NAMES, one) for one in right]
        for one in wrong:
            with self.assertRaises(NoKind):
                found(SORTS, NAMES, one)
            self.assertEqual([found(SORTS, NAMES, other) for other in right], ahead)

    def test_large_and_deep(self):
        made = "x"
        for level in range(120):
            made = ("fun", "x", made)
        told = found(SORTS, {}, made)
        self.assertEqual(len(told), 121)
        self.assertIs(takes(SORTS, {}, made, told), True)
        made = 1
        for level in range(9):
            made = ("let", "k", ("fun", "x", ("plus", "x", made)), ("plus", ("call", "k", 1), made))
        told = found(SORTS, {}, made)
        self.assertGreater(len(told), 3500)
        self.assertIs(takes(SORTS, {}, made, told), True)
        made = "Nil"
        for level in range(100):
            made = ("Cons", ("fun", "x", "x"), made)
        self.assertEqual(found(SORTS, {}, made)[0], (("list", ("->", "?0", "?0")), ()))

    def test_kinds_that_grow_too_large_to_write_down_are_still_refused(self):
        letters = "abcdefghijklmnopqrstuvwxyz"
        words = ["n" + one + other for one in letters for other in letters][:90]
        made = ("plus", words[-1], 1)
        for place in reversed(range(1, 90)):
            made = ("let", words[place], ("make", "pair", words[place - 1], words[place - 1]), made)
        self.refused("NoKind", found, SORTS, {}, ("fun", words[0], made))


if __name__ == "__main__":
    unittest.main()
