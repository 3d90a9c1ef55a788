"""[26]: taken programs made into code."""

import random
import unittest

from changing import changed_programs
from facework.coding import coded
from facework.machine import done
from facework.reading import phrases_within, read
from facework.running import run
from facework.scopes import look_over
from facework.whole import papers_of
from helping import Case, told_of
from plain import phrase_of
from plain_whole import plain_run
from programs import BIT, COUNT, LIST, ONES, PAIR, PROGRAMS, TWOS, calls_in_turn, calls_within

FORMS = {
    "number": 1, "local": 1, "global": 1, "keep": 0, "drop": 1, "store": 0, "plus": 0, "minus": 0, "times": 0, "less": 0,
    "unless": 1, "jump": 1, "close": 2, "ring": 1, "call": 0, "back": 0, "block": 2, "field": 1, "case": 1,
}


def is_whole(thing):
    return type(thing) is int


def are_places(thing, most=None):
    return type(thing) is tuple and all(is_whole(one) and one >= 0 and (most is None or one < most) for one in thing)


def is_right_row(row, count):
    """Whether it is a row of one of the told forms; rows that it goes to are there."""
    if type(row) is not tuple or not row or FORMS.get(row[0]) != len(row) - 1:
        return False
    if row[0] == "number":
        return is_whole(row[1])
    if row[0] in ("unless", "jump"):
        return are_places(row[1:], count)
    if row[0] == "close":
        return are_places(row[1:2], count) and are_places(row[2])
    if row[0] == "ring":
        return type(row[1]) is tuple and all(
            type(one) is tuple and len(one) == 2 and are_places(one[:1], count) and are_places(one[1]) for one in row[1]
        )
    if row[0] == "case":
        return are_places(row[1], count)
    return are_places(row[1:])


def phrases_in(phrase):
    inner = phrases_within(phrase) if isinstance(phrase, tuple) else []
    return 1 + sum(phrases_in(one) for one in inner)


def most_rows(program):
    """How many rows the code may have."""
    makers = {declaration[1]: declaration[4:] for declaration in program if declaration[0] == "maker"}
    told = 2 + 5 * phrases_in(program[-1][1])
    for declaration in program:
        body = declaration[3:] if declaration[0] == "part" else makers[declaration[2]] if declaration[0] == "apply" else ()
        told += sum(2 + 5 * phrases_in(item[2]) for item in body if item[0] == "val")
    return told


class Coding(Case):

    def same(self, program):
        """The code is of right rows, not too many, and comes to what the run does, for each most."""
        self.assertIsNone(look_over(program))
        papers_of(program)
        code = coded(program)
        self.assertIs(type(code), tuple)
        for row in code:
            self.assertTrue(is_right_row(row, len(code)), row)
        self.assertLessEqual(len(code), most_rows(program))
        calls = plain_run(program, 400)[1]
        for most in [300, 400] + list(range(-1, min(calls, 60) + 2)):
            self.assertEqual(told_of(done, code, most), told_of(run, program, most), (program, most))
        return told_of(done, code)

    def comes_to(self, wanted, text):
        self.assertEqual(self.same(read(text)), wanted, text)


class Forms(Coding):

    def test_each_form_of_a_phrase(self):
        for phrase, wanted in (
            ("5", 5), ("-5", -5), ("(plus 3 4)", 7), ("(minus 3 4)", -1), ("(times 3 4)", 12), ("(less 3 4)", 1), ("(less 4 3)", 0),
            ("(if 0 1 2)", 2), ("(if 1 1 2)", 1), ("(if -1 1 2)", 1), ("(let x 3 (plus x x))", 6), ("(call (fun x (plus x 1)) 3)", 4),
            ("(ring ((f x (if x (call f (minus x 1)) 7))) (call f 3))", 7), ("(pick two (make pair 3 4))", 4),
            ("(pick one (make pair 3 4))", 3), ("(case On ((Off) 1) ((On) 2))", 2), ("(case Off ((On) 1) ((Off) 2))", 2),
            ("(case (Cons 3 Nil) ((Nil) 0) ((Cons a b) a))", 3), ("(case (Cons 3 Nil) ((Cons a b) (case b ((Cons a b) 0) ((Nil) a))) ((Nil) 1))", 3),
        ):
            self.comes_to(wanted, BIT + PAIR + LIST + f"(main {phrase})")

    def test_a_kind_of_one_tag_and_one_of_six(self):
        self.comes_to(7, "(kind solo () (Solo num num)) (main (case (Solo 3 4) ((Solo a b) (plus a b))))")
        tags = "ABCDEF"
        kind = "(kind six () " + " ".join(f"({tag} {'num ' * (place % 5)})" for place, tag in enumerate(tags)) + ")"
        arms = " ".join(f"(({tag} {' '.join('abcd'[:place % 5])}) {10 * place})" for place, tag in enumerate(tags))
        turned = " ".join(f"(({tag} {' '.join('abcd'[:place % 5])}) {10 * place})" for place, tag in reversed(list(enumerate(tags))))
        for place, tag in enumerate(tags):
            phrase = f"({tag} {'1 ' * (place % 5)})" if place % 5 else tag
            self.comes_to(10 * place, kind + f"(main (case {phrase} {arms}))")
            self.comes_to(10 * place, kind + f"(main (case {phrase} {turned}))")

    def test_programs(self):
        for name, program in PROGRAMS.items():
            with self.subTest(name):
                self.same(program)

    def test_names_that_hide_others(self):
        for phrase, wanted in (
            ("(let x 1 (let x (plus x 1) (let x (times x 5) x)))", 10),
            ("(let x 1 (plus (let x 2 x) x))", 3),
            ("(let x 1 (call (fun x (plus x (let x 5 x))) 10))", 15),
            ("(let f 1 (plus f (ring ((f f (plus f 1))) (call f 5))))", 7),
            ("(let a 1 (case (Cons 2 Nil) ((Nil) a) ((Cons a b) (plus a (case b ((Nil) a) ((Cons b a) b))))))", 4),
            ("(let a 1 (let b 2 (let c 3 (call (call (fun b (fun d (plus (times 1000 a) (plus (times 100 b) (plus (times 10 c) d))))) 7) 8))))", 1738),
            ("(let x 1 (let f (fun y (fun x (minus x y))) (call (call f x) 9)))", 8),
        ):
            self.comes_to(wanted, LIST + f"(main {phrase})")

    def test_lets_in_phrases_that_wait(self):
        # What the locals were is there again behind each let, case and ring, however it is left.
        self.comes_to(1236, LIST + "(main (let a 1000 (plus (let b 200 (plus a b)) (let c 30 (plus c (case (Cons 6 Nil) ((Nil) 0)"
                      " ((Cons x y) x)))))))")
        self.comes_to(21, LIST + "(main (let a 1 (plus (case (if a Nil (Cons 5 Nil)) ((Nil) (let b 10 b)) ((Cons x y) (plus x a)))"
                      " (let c 10 (plus a c)))))")
        self.comes_to(6, LIST + "(main (let a 1 (plus (ring ((f x x) (g x (call f x))) (call g 5)) a)))")
        self.comes_to(7, "(main (let a 1 (plus (if a (let q 5 (let r 6 (plus q a))) 0) a)))")

    def test_functions_that_keep_locals(self):
        self.comes_to(654, "(main (let a 600 (let f (let b 50 (fun c (plus a (plus b c)))) (let b 1 (call f 4)))))")
        self.comes_to(4321, "(main (let f (fun a (fun b (fun c (fun d (plus a (plus b (plus c d))))))) (let a 9 (call (call (call (call f 1) 20) 300) 4000))))")

    def test_rings_of_one_to_four_functions(self):
        for count in range(1, 5):
            names = "abcd"[:count]
            functions = " ".join(
                f"({one} x (if x (plus (times k {place + 1}) (call {names[(place + 1) % count]} (minus x 1))) n))"
                for place, one in enumerate(names)
            )
            for one in names:
                phrase = f"(let k 10 (let n 3 (ring ({functions}) (let k 99 (call {one} 5)))))"
                wanted = 3 + sum(10 * ((names.index(one) + turn) % count + 1) for turn in range(5))
                self.comes_to(wanted, f"(main {phrase})")

    def test_rings_within_rings(self):
        # The inner f hides the outer one in g.
        ring = "(ring ((f x (ring ((g y (if y (call f (minus y 1)) x)) (f y (plus y 10))) (call g x))))"
        self.comes_to(0, f"(main {ring} (call f 0)))")
        self.comes_to(13, f"(main {ring} (call f 4)))")
        # And here g calls the outer one.
        ring = "(ring ((f x (ring ((g y (if y (call f (minus y 1)) (plus x 50)))) (call g x))))"
        self.comes_to(50, f"(main {ring} (call f 3)))")

    def test_deep_phrases(self):
        deep = "x"
        for turn in range(97):
            deep = (("plus", deep, 1), ("let", "y", deep, "y"), ("if", 1, deep, 0))[turn % 3]
        self.assertEqual(self.same((("main", ("let", "x", 5, deep)),)), 5 + 33)
        deep = ("plus", "x", 0)
        for turn in range(45):
            deep = ("let", "f", ("fun", "x", deep), ("call", "f", 1)) if turn % 5 == 0 else ("plus", deep, 0)
        self.assertEqual(self.same((("main", ("let", "x", 5, deep)),)), 1)


class Declarations(Coding):

    def test_vals_in_other_vals(self):
        self.comes_to(
            31, "(face F () (val a num) (val c num)) (part P F (val a 1) (val b (plus a a)) (val c (plus b (times b 4))) (val d (fun a (plus a c))))"
            "(part Q F (val c (plus P.a P.c)) (val a (let c 20 c))) (main (plus Q.c Q.a))"
        )

    def test_functions_of_vals_use_vals_and_locals(self):
        self.comes_to(
            1234, "(face F () (val f (-> num num))) (part P F (val n 1000) (val f (let m 200 (fun x (plus n (plus m x))))))"
            "(part Q F (val n 4) (val f (fun n (call P.f (plus n 4))))) (main (let n 30 (call Q.f n)))"
        )

    def test_makers_applied_once_twice_and_not_at_all(self):
        ground = PAIR + COUNT + ONES + TWOS + (
            "(face Num () (val n num)) (maker M ((X Count)) Num (val a X.zero) (val n (plus 1 (call X.get (call X.up a)))))"
        )
        self.comes_to(5, ground + "(main 5)")
        self.comes_to(2, ground + "(apply A M Ones) (main A.n)")
        self.comes_to(3, ground + "(apply A M Twos) (main A.n)")
        self.comes_to(32, ground + "(apply A M Ones) (apply B M Twos) (main (plus A.n (times 10 B.n)))")

    def test_rows_of_a_maker_for_each_apply_alone(self):
        ground = "(face F ()) (part P F) (maker M ((X F)) F (val v (plus 1 (plus 2 (plus 3 4)))))"
        none = len(coded(read(ground + "(main 0)")))
        one = len(coded(read(ground + "(apply A M P) (main 0)")))
        two = len(coded(read(ground + "(apply A M P) (apply B M A) (main 0)")))
        self.assertLessEqual(none, 7)
        self.assertLessEqual(one - none, 2 + 5 * 7)
        self.assertEqual(two - one, one - none)

    def test_makers_over_applied_parts_and_givers_called_like_parts(self):
        ground = (
            "(face F () (val get (-> num num))) (part P F (val get (fun x (plus x 1)))) (part Q F (val get (fun x (times x 3))))"
            "(maker M ((X F) (Y F)) F (val get (fun x (call X.get (call Y.get x)))))"
        )
        self.comes_to(16, ground + "(apply R M P Q) (main (call R.get 5))")
        self.comes_to(145, ground + "(apply R M P Q) (apply S M R Q) (apply T M S R) (main (call T.get 5))")
        self.comes_to(47, ground + "(apply Y M P P) (apply X M Q Q) (apply R M Y X) (main (call R.get 5))")
        self.comes_to(61, ground + "(part Y F (val get (fun x (minus x 2)))) (apply X M Y Q) (apply R M X Y) (main (call R.get 23))")

    def test_a_giver_s_part_has_more_vals_than_its_face(self):
        self.comes_to(
            7, "(face F () (val v num)) (part P F (val w 1) (val v 7) (val u 3)) (maker M ((X F)) F (val w 2) (val v X.v))"
            "(apply Q M P) (apply R M Q) (main R.v)"
        )


class Refusals(Coding):

    def test_too_great(self):
        great = f"(times {10 ** 29} (times {10 ** 29} 1000))"
        self.comes_to("TooGreat", f"(main {great})")
        self.comes_to("TooGreat", f"(face F ()) (part P F (val v {great})) (main 0)")
        self.comes_to("TooGreat", f"(main (let x {great} 0))")
        self.comes_to(10 ** 59, f"(main (times {10 ** 29} (times {10 ** 29} 10)))")

    def test_too_long(self):
        for count in (0, 1, 2, 5, 300, 301, 400):
            self.same((("main", calls_in_turn(count)),))

    def test_too_deep(self):
        for count in (1, 9, 10, 11, 12):
            self.comes_to(7 if count < 11 else "TooDeep", f"(main {calls_within(count)})")
        self.comes_to(21, f"(main (plus {calls_within(10)} (plus {calls_within(10)} {calls_within(10)})))")

    def test_which_comes_first(self):
        great = f"(times {10 ** 29} (times {10 ** 29} 1000))"
        deep = "(ring ((f x (call f x))) (call f 0))"
        self.comes_to("TooGreat", f"(main (plus {great} {deep}))")
        self.comes_to("TooDeep", f"(main (plus {deep} {great}))")
        self.comes_to("TooGreat", f"(main (call (fun y {deep}) {great}))")
        self.comes_to("TooDeep", f"(main (call (fun y {great}) {deep}))")


class Changed(Coding):

    def test_changed_programs_that_are_taken(self):
        counts = {}
        for program in changed_programs(random.Random(3), PROGRAMS, 150):
            if not isinstance(told_of(papers_of, program), str):
                told = self.same(program)
                name = told if isinstance(told, str) else "number"
                counts[name] = counts.get(name, 0) + 1
        self.assertGreater(counts["number"], 20)

    def test_phrases_of_some_kind(self):
        choice = random.Random(8)
        ground = read(LIST + PAIR + BIT + "(main 0)")[:-1]
        count = 0
        for turn in range(150):
            phrase = phrase_of(choice, {}, "num", 4)
            program = ground + (("main", phrase),)
            if told_of(look_over, program) is None and not isinstance(told_of(papers_of, program), str):
                self.same(program)
                count += 1
        self.assertGreater(count, 50)


class Steady(Coding):

    def test_the_program_stays_and_is_coded_alike_again(self):
        for name, program in PROGRAMS.items():
            code = coded(program)
            done(code)
            self.assertEqual(coded(program), code)


if __name__ == "__main__":
    unittest.main()
