"""[27], [28]: two bodies of one part, and whether they are tied."""

import copy
import random
import unittest

from changing import changed_program, is_formed
from facework.reading import is_body, read
from facework.running import run
from facework.scopes import look_over
from facework.things import things_of
from facework.ties import tied
from facework.whole import papers_of
from helping import Case, told_of
from plain_whole import plain_tied
from programs import BIT, LIST, PAIR, calls_in_turn, calls_within

GREAT = f"(times {10 ** 29} (times {10 ** 29} 1000))"
DEEP = "(ring ((f x (call f x))) (call f 0))"

FLAG = "(face Flag () (hide t 0) (val off t) (val turn (-> t t)) (val both (-> t (-> t t))) (val is (-> t bit)) (val get (-> t num)))"
# The same otherwise: a number that is 0 or 1, a bit, a record of the number turned, a list of none or of one.
NUMS = (
    "(hide t () num) (val off 0) (val turn (fun x (minus 1 x))) (val both (fun x (fun y (times x y))))"
    " (val is (fun x (if x On Off))) (val get (fun x x))"
)
BITS = (
    "(hide t () bit) (val off Off) (val turn (fun x (case x ((On) Off) ((Off) On))))"
    " (val both (fun x (fun y (case x ((Off) Off) ((On) y))))) (val is (fun x x)) (val get (fun x (case x ((On) 1) ((Off) 0))))"
)
RECORDS = (
    "(hide t () (pair num num)) (val off (make pair 0 1)) (val turn (fun x (make pair (pick two x) (pick one x))))"
    " (val both (fun x (fun y (if (pick one x) y x)))) (val is (fun x (if (pick one x) On Off)))"
    " (val get (fun x (pick one x)))"
)
LISTS = (
    "(hide t () (list bit)) (val off Nil) (val turn (fun x (case x ((Nil) (Cons On Nil)) ((Cons a b) b))))"
    " (val both (fun x (fun y (case x ((Nil) x) ((Cons a b) y))))) (val is (fun x (case x ((Nil) Off) ((Cons a b) a))))"
    " (val get (fun x (case x ((Nil) 0) ((Cons a b) 1))))"
)
OFF, ON = ("Off",), ("On",)
VALUES = {
    NUMS: (0, 1),
    BITS: (OFF, ON),
    RECORDS: (("pair", 0, 1), ("pair", 1, 0)),
    LISTS: (("Nil",), ("Cons", ON, ("Nil",))),
}


def tie_of(one, other):
    return [("t", left, right) for left, right in zip(VALUES[one], VALUES[other])]


def flag(body, ground="", main="(call Fl.get (call Fl.turn Fl.off))"):
    return read(BIT + PAIR + LIST + FLAG + ground + f"(part Fl Flag {body}) (main {main})")


def some_flag(choice, depth):
    """A phrase of the kind that the part Fl hides."""
    if depth == 0:
        return "Fl.off"
    of = lambda: some_flag(choice, depth - 1)
    return choice.choice((
        lambda: of(), lambda: f"(call Fl.turn {of()})", lambda: f"(call (call Fl.both {of()}) {of()})",
        lambda: f"(if {some_number(choice, depth - 1)} {of()} {of()})", lambda: f"(let x {of()} (call Fl.turn x))",
    ))()


def some_number(choice, depth):
    if depth == 0:
        return str(choice.randrange(-3, 4))
    of = lambda: some_number(choice, depth - 1)
    return choice.choice((
        lambda: f"(call Fl.get {some_flag(choice, depth)})", lambda: f"({choice.choice(('plus', 'minus', 'times', 'less'))} {of()} {of()})",
        lambda: f"(case (call Fl.is {some_flag(choice, depth)}) ((On) {of()}) ((Off) {of()}))", lambda: f"(if {of()} {of()} {of()})",
    ))()


class Ties(Case):

    def tied(self, wanted, program, part, body, tie, most=100):
        self.assertIs(tied(program, part, body, tie, most), wanted)
        self.assertIs(plain_tied(program, part, body, tie, most), wanted)

    def of_face(self, wanted, face, one, other, tie, most=100, ground=""):
        """Two bodies of a part P of that face."""
        program = read(BIT + ground + f"(face F () {face}) (part P F {one}) (main 0)")
        look_over(program)
        papers_of(program)
        self.tied(wanted, program, "P", things_of(other), tie, most)


class Tied(Ties):

    def test_bodies_that_keep_the_same_otherwise(self):
        for one in VALUES:
            for other in VALUES:
                self.tied(True, flag(one), "Fl", things_of(other), tie_of(one, other))

    def test_such_as_differ_at_one_choice_alone(self):
        for wrong in (
            NUMS.replace("(times x y)", "(plus x y)"), NUMS.replace("(times x y)", "x"), NUMS.replace("(val off 0)", "(val off 1)"),
            NUMS.replace("(val get (fun x x))", "(val get (fun x 0))"), NUMS.replace("(val get (fun x x))", "(val get (fun x (times x 2)))"),
            NUMS.replace("(if x On Off)", "Off"), NUMS.replace("(if x On Off)", "(if x Off On)"), NUMS.replace("(minus 1 x)", "x"),
            NUMS.replace("(minus 1 x)", "(plus x 1)"), NUMS.replace("(val off 0)", "(val off 2)"),
        ):
            for one in VALUES:
                self.tied(False, flag(one), "Fl", things_of(wrong), tie_of(one, NUMS))
                self.tied(False, flag(wrong), "Fl", things_of(one), tie_of(NUMS, one))

    def test_ties_without_a_pair_that_is_wanted(self):
        for one in VALUES:
            for other in VALUES:
                tie = tie_of(one, other)
                self.tied(False, flag(one), "Fl", things_of(other), tie[:1])
                self.tied(False, flag(one), "Fl", things_of(other), tie[1:])
                self.tied(False, flag(one), "Fl", things_of(other), [])

    def test_a_pair_that_breaks_the_tie(self):
        tie = tie_of(NUMS, BITS)
        for more in ((0, ON), (1, OFF), (2, ON), (-1, OFF)):
            self.tied(False, flag(NUMS), "Fl", things_of(BITS), tie + [("t",) + more])
            self.tied(False, flag(NUMS), "Fl", things_of(BITS), [("t",) + more] + tie)

    def test_the_order_counts_for_nothing(self):
        tie = tie_of(NUMS, LISTS)
        self.tied(True, flag(NUMS), "Fl", things_of(LISTS), tie[::-1])
        self.tied(True, flag(NUMS), "Fl", things_of(LISTS), tie + tie)

    def test_the_one_is_for_the_part_and_the_other_for_the_body(self):
        self.tied(False, flag(NUMS), "Fl", things_of(BITS), tie_of(BITS, NUMS))
        self.tied(True, flag(BITS), "Fl", things_of(NUMS), tie_of(BITS, NUMS))

    def test_tuples_of_other_words_count_for_nothing(self):
        tie = tie_of(NUMS, BITS)
        for word in ("off", "num", "bit", "u", "Fl.t", "get", "Flag"):
            self.tied(True, flag(NUMS), "Fl", things_of(BITS), tie + [(word, 1, OFF), (word, 5, 5)])
            self.tied(False, flag(NUMS), "Fl", things_of(BITS), [(word,) + row[1:] for row in tie])

    def test_a_body_with_more_hides_and_vals(self):
        more = "(hide s () num) (val aid 3) " + BITS + "(val last (plus aid 1))"
        self.tied(True, flag(NUMS), "Fl", things_of(more), tie_of(NUMS, BITS))

    def test_two_hides_are_kept_apart(self):
        face = "(hide t 0) (hide u 0) (val a t) (val b u) (val go (-> t u)) (val get (-> u num))"
        one = "(hide t () num) (hide u () num) (val a 1) (val b 2) (val go (fun x 2)) (val get (fun x x))"
        other = "(hide t () num) (hide u () num) (val a 5) (val b 6) (val go (fun x 6)) (val get (fun x (minus x 4)))"
        self.of_face(True, face, one, other, [("t", 1, 5), ("u", 2, 6)])
        self.of_face(False, face, one, other, [("t", 1, 5), ("t", 2, 6)])
        self.of_face(False, face, one, other, [("u", 1, 5), ("u", 2, 6)])
        self.of_face(False, face, one, other, [("u", 1, 5), ("t", 2, 6)])
        self.of_face(False, face, one, other, [("t", 1, 5), ("u", 2, 6), ("u", 1, 6)])

    def test_faces_without_hides(self):
        face = "(val n num) (val b bit) (val turn (-> bit bit))"
        one = "(val n 3) (val b On) (val turn (fun x (case x ((On) Off) ((Off) On))))"
        self.of_face(True, face, one, one, [])
        self.of_face(True, face, one, one.replace("(val n 3)", "(val n (plus 1 2))"), [])
        self.of_face(False, face, one, one.replace("(val n 3)", "(val n 4)"), [])
        self.of_face(False, face, one, one.replace("(val b On)", "(val b Off)"), [])
        self.of_face(False, face, one, one.replace("((On) Off)", "((On) On)"), [])
        self.of_face(False, face, one, one.replace("((Off) On)", "((Off) Off)"), [])
        self.of_face(True, "", "", "(val v 3)", [])

    def test_vals_of_three_arguments(self):
        kind = "(kind three () (A) (B) (C))"
        face = "(hide t 0) (val go (-> three (-> t (-> bit t)))) (val f (-> three (-> three (-> three num))))"
        case = "(case x ((A) 1) ((B) 2) ((C) 3))"
        one = (
            f"(hide t () num) (val f (fun x (fun y (fun z (if (less {case} 3) 0 (case y ((A) 0) ((B) 0) ((C) (case z ((A) 0) ((B) 0) ((C) 9)))))))))"
            " (val go (fun x (fun y (fun z (case z ((On) y) ((Off) 0))))))"
        )
        other = one.replace("((C) 9)", "((C) 8)")
        ties = [("t", 0, 0), ("t", 4, 4), ("t", 5, 5)]
        self.of_face(True, face, one, one, ties, ground=kind)
        # The last choice of the last val tells them apart.
        self.of_face(False, face, one, other, ties, ground=kind)
        self.of_face(False, face, one, one.replace("((Off) 0)", "((Off) 1)"), ties, ground=kind)
        self.of_face(True, face, one, one.replace("((Off) 0)", "((Off) 4)"), ties + [("t", 0, 4)], ground=kind)

    def test_the_last_choice_and_the_last_val(self):
        face = "(hide t 0) (val a (-> t num)) (val b (-> t num))"
        one = "(hide t () num) (val a (fun x x)) (val b (fun x x))"
        other = "(hide t () num) (val a (fun x x)) (val b (fun x (if (less x 9) x 10)))"
        self.of_face(True, face, one, other, [("t", n, n) for n in range(9)])
        self.of_face(False, face, one, other, [("t", n, n) for n in range(10)])

    def test_no_choices_at_all(self):
        face = "(hide t 0) (val get (-> t num))"
        self.of_face(True, face, "(hide t () num) (val get (fun x x))", "(hide t () num) (val get (fun x 9))", [])

    def test_values_one_in_another(self):
        face = "(hide t 0) (val go t) (val get (-> t num))"
        one = "(hide t () (pair (list bit) num)) (val go (make pair (Cons On Nil) -3)) (val get (fun x (pick two x)))"
        other = "(hide t () (list (pair num num))) (val go (Cons (make pair -3 0) Nil)) (val get (fun x (case x ((Nil) 1) ((Cons a b) (pick one a)))))"
        left, right = ("pair", ("Cons", ON, ("Nil",)), -3), ("Cons", ("pair", -3, 0), ("Nil",))
        self.of_face(True, face, one, other, [("t", left, right)], ground=PAIR + LIST)
        for wrong in (("pair", ("Nil",), -3), ("pair", ("Cons", OFF, ("Nil",)), -3), ("pair", ("Cons", ON, ("Nil",)), 3), -3, ("pair",)):
            self.of_face(False, face, one, other, [("t", wrong, right)], ground=PAIR + LIST)

    def test_values_that_hold_functions_are_in_no_tie(self):
        face = "(hide t 0) (val go t)"
        one = "(hide t () (-> num num)) (val go (fun x x))"
        self.of_face(False, face, one, one, [("t", 0, 0)])
        self.of_face(False, face, one, "(hide t () num) (val go 0)", [("t", 0, 0)])
        self.of_face(False, face, "(hide t () num) (val go 0)", one, [("t", 0, 0)])

    def test_told_values_that_a_body_can_t_take(self):
        for value in (5, ("Nil",), ("On", 1), ("pair", 1, 2), ("On", ("On",))):
            self.assertIs(tied(flag(BITS), "Fl", things_of(NUMS), tie_of(BITS, NUMS) + [("t", value, 0)]), False)
        for value in (("pair",), ("pair", 0), OFF, 0):
            self.assertIs(tied(flag(RECORDS), "Fl", things_of(NUMS), tie_of(RECORDS, NUMS) + [("t", value, 0)]), False)
        # The same value in both, but no number.
        program = read(BIT + "(face F () (hide t 0) (val get (-> t num))) (part P F (hide t () num) (val get (fun x x))) (main 0)")
        self.assertIs(tied(program, "P", program[2][3:], [("t", 1, 1)]), True)
        self.assertIs(tied(program, "P", program[2][3:], [("t", ON, ON)]), False)

    def test_a_kind_behind_the_part_that_is_called_like_its_hide(self):
        # The hide is meant: no block of the kind is chosen.
        program = read("(face F () (hide t 0) (val get (-> t num))) (part P F (hide t () num) (val get (fun x x))) (kind t () (A) (B)) (main 0)")
        papers_of(program)
        self.tied(True, program, "P", things_of("(hide t () num) (val get (fun x (minus x 1)))"), [("t", 1, 2), ("t", 5, 6)])
        self.tied(False, program, "P", things_of("(hide t () num) (val get (fun x (minus x 1)))"), [("t", 1, 1)])

    def test_parts_with_givers_and_behind_others(self):
        ground = (
            "(face Num () (val n num)) (part N Num (val n 5)) (face Inc ((X Num)) (hide t 0) (val a t) (val up (-> t t)) (val get (-> t num)))"
            "(maker M ((X Num)) Num (val n (plus X.n 1))) (apply Six M N)"
        )
        program = read(ground + "(part P (Inc N) (hide t () num) (val a 0) (val up (fun x 5)) (val get (fun x x)))"
                       "(part Q Num (val n (call (fun x x) 1))) (main (plus Q.n (call P.get P.a)))")
        papers_of(program)
        body = things_of("(hide t () num) (val a N.n) (val up (fun x (plus x N.n))) (val get (fun x (minus x 5)))")
        self.tied(False, program, "P", body, [("t", 0, 5), ("t", 5, 10)])
        body = things_of("(hide t () num) (val a Six.n) (val up (fun x 11)) (val get (fun x (minus x 6)))")
        self.tied(True, program, "P", body, [("t", 0, 6), ("t", 5, 11)])

    def test_the_promise_for_programs_behind(self):
        # Where bodies are tied, programs come to the same number with either.
        choice = random.Random(6)
        numbers = {}
        for turn in range(80):
            main = some_number(choice, 4)
            program = flag(NUMS, main=main)
            look_over(program)
            papers_of(program)
            told = {told_of(run, flag(body, main=main)) for body in VALUES} - {"TooLong", "TooDeep", "TooGreat"}
            self.assertLessEqual(len(told), 1, main)
            numbers[turn] = told
        self.assertGreater(len({number for told in numbers.values() for number in told}), 5)


class Bounds(Ties):

    def test_400_calls_ahead_of_the_part_and_401(self):
        for count, wanted in ((0, True), (399, True), (400, True), (401, False)):
            ground = (("face", "Bare", ()), ("part", "Ah", "Bare", ("val", "v", calls_in_turn(count - count // 2))),
                      ("part", "Bh", "Bare", ("val", "v", calls_in_turn(count // 2))))
            program = ground + read("(face F () (val n num)) (part P F (val n 1)) (main 0)")
            self.tied(wanted, program, "P", things_of("(val n 1)"), [], 0)

    def test_calls_behind_the_part_count_for_nothing(self):
        program = read("(face F () (val n num)) (part P F (val n 1)) (main 0)")
        program = program[:2] + (("part", "Q", "F", ("val", "n", calls_in_turn(900))), ("main", calls_in_turn(900)))
        self.tied(True, program, "P", things_of("(val n 1)"), [], 0)

    def test_calls_ahead_are_no_calls_of_the_vals(self):
        program = (("face", "F", (), ("val", "n", "num")), ("part", "Q", "F", ("val", "n", calls_in_turn(400))),
                   ("part", "P", "F", ("val", "n", calls_in_turn(100))), ("main", 0))
        self.tied(True, program, "P", things_of("(val n 0)"), [])
        self.tied(False, program, "P", things_of("(val n 0)"), [], 99)

    def test_just_most_calls_in_a_body_s_vals_and_one_more(self):
        text = "(face F () (val n num)) (part P F (val n 0)) (main 0)"
        for most in (0, 1, 5, 100):
            for count, wanted in ((most, True), (most + 1, False)):
                half = count // 2
                body = (("val", "m", calls_in_turn(half)), ("val", "n", calls_in_turn(count - half)))
                self.tied(wanted, read(text), "P", body, [], most)
                self.tied(wanted, read(text)[:1] + (("part", "P", "F") + body, ("main", 0)), "P", things_of("(val n 0)"), [], most)

    def test_most_is_100_where_it_isn_t_told(self):
        program = read("(face F () (val n num)) (part P F (val n 0)) (main 0)")
        self.assertIs(tied(program, "P", (("val", "n", calls_in_turn(100)),), []), True)
        self.assertIs(tied(program, "P", (("val", "n", calls_in_turn(101)),), []), False)
        self.assertIs(tied(program, "P", (("val", "n", calls_in_turn(101)),), [], most=101), True)

    def test_a_most_below_0_is_as_0(self):
        program = read("(face F () (val n num)) (part P F (val n 0)) (main 0)")
        self.tied(True, program, "P", things_of("(val n 0)"), [], -5)
        self.tied(False, program, "P", (("val", "n", calls_in_turn(1)),), [], -5)

    def test_just_most_calls_for_a_choice_and_one_more(self):
        # A call of the val is one of them.
        face = "(hide t 0) (val get (-> t num))"
        one = "(hide t () num) (val get (fun x x))"
        for most in (1, 2, 6):
            for count, wanted in ((most - 1, True), (most, False)):
                program = read(f"(face F () {face}) (part P F {one}) (main 0)")
                body = things_of("(hide t () num)") + (("val", "get", ("fun", "x", ("plus", "x", calls_in_turn(count)))),)
                self.tied(wanted, program, "P", body, [("t", 1, 1)], most)
                program = program[:1] + (("part", "P", "F") + body, ("main", 0))
                self.tied(wanted, program, "P", things_of(one), [("t", 1, 1)], most)
        self.of_face(False, face, one, one, [("t", 1, 1)], 0)

    def test_each_argument_is_a_call(self):
        face = "(hide t 0) (val add (-> t (-> t (-> t num))))"
        one = "(hide t () num) (val add (fun x (fun y (fun z (plus x (plus y z))))))"
        self.of_face(True, face, one, one, [("t", 1, 1)], 3)
        self.of_face(False, face, one, one, [("t", 1, 1)], 2)

    def test_each_choice_is_counted_anew(self):
        face = "(hide t 0) (val get (-> t num)) (val more (-> t (-> bit num)))"
        one = "(hide t () num) (val aid (call (fun x x) 3)) (val get (fun x (plus aid x))) (val more (fun x (fun y x)))"
        self.of_face(True, face, one, one, [("t", n, n) for n in range(12)], 2)
        self.of_face(False, face, one, one, [("t", n, n) for n in range(12)], 1)

    def test_too_deep_in_one_body_alone(self):
        face = "(hide t 0) (val get (-> t num))"
        one = "(hide t () num) (val get (fun x (plus x 7)))"
        for count, wanted in ((9, True), (10, False)):
            # The call of the val is under way, too.
            other = f"(hide t () num) (val get (fun y (plus y {calls_within(count)})))"
            self.of_face(wanted, face, one, other, [("t", 1, 1)])
            self.of_face(wanted, face, other, one, [("t", 1, 1)])
        for count, wanted in ((10, True), (11, False)):
            other = f"(hide t () num) (val aid {calls_within(count)}) (val get (fun y (plus y aid)))"
            self.of_face(wanted, face, one, other, [("t", 1, 1)])
            self.of_face(wanted, face, other, one, [("t", 1, 1)])

    def test_the_depth_is_from_none_on_for_each_argument(self):
        face = "(hide t 0) (val add (-> t (-> t num)))"
        one = "(hide t () num) (val add (fun x (fun y 7)))"
        other = f"(hide t () num) (val add (fun x (let a {calls_within(9)} (fun y {calls_within(9)}))))"
        self.of_face(True, face, one, other, [("t", 1, 1)])

    def test_too_great_in_one_body_alone(self):
        face = "(hide t 0) (val get (-> t num))"
        one = "(hide t () num) (val get (fun x x))"
        for other in (
            f"(hide t () num) (val get (fun x (let y {GREAT} x)))",
            f"(hide t () num) (val aid {GREAT}) (val get (fun x x))",
        ):
            self.of_face(False, face, one, other, [("t", 1, 1)])
            self.of_face(False, face, other, one, [("t", 1, 1)])
            self.of_face(False, face, other, other, [("t", 1, 1)])

    def test_vals_that_refuse_where_nothing_can_be_chosen(self):
        # The bodies don't come to values, whatever is asked of them.
        face = "(hide t 0) (val get (-> t num))"
        one = "(hide t () num) (val get (fun x x))"
        self.of_face(True, face, one, one, [])
        self.of_face(False, face, one, one + f"(val aid {DEEP})", [])
        self.of_face(False, "", f"(val aid {GREAT})", "", [])

    def test_a_choice_that_refuses_alone(self):
        face = "(hide t 0) (val get (-> t num))"
        one = "(hide t () num) (val get (fun x x))"
        other = f"(hide t () num) (val get (fun x (if (less x 5) x {DEEP})))"
        self.of_face(True, face, one, other, [("t", 1, 1), ("t", 4, 4)])
        self.of_face(False, face, one, other, [("t", 1, 1), ("t", 5, 5)])


class Refusals(Ties):

    FACES = "(face F () (hide t 0) (val v t)) (face Wide () (hide h 1) (val n num)) (maker M ((X F)) F (hide t () num) (val v 1))"
    PARTS = "(part P F (hide t () num) (val v 1)) (part W Wide (hide h (?a) ?a) (val n 1)) (apply A M P) (main 0)"

    def refuses(self, name, part, body, program=None):
        program = read(BIT + self.FACES + self.PARTS) if program is None else program
        papers_of(program)
        self.refused(name, tied, program, part, things_of(body), [("t", 1, 1)])

    def test_no_part_with_a_body_of_its_own(self):
        for name in ("Q", "F", "M", "A", "X", "t", "P.v", "Wide", "On", ""):
            self.refuses("NoName", name, "(hide t () num) (val v 1)")

    def test_refusals_of_looking_over(self):
        self.refuses("Twice", "P", "(hide t () num) (val v 1) (val v 2)")
        self.refuses("Twice", "P", "(hide t () num) (hide t () num) (val v 1)")
        self.refuses("NoName", "P", "(hide t () num) (val v x)")
        self.refuses("NoName", "P", "(hide t () list) (val v 1)")
        self.refuses("NoName", "P", "(hide t () num) (val v A.v)")
        self.refuses("NoCount", "P", "(hide t () num) (val v (On 1))")
        self.refuses("NoCount", "P", "(hide t () (bit num)) (val v On)")

    def test_refusals_of_finding(self):
        self.refuses("NoFace", "P", "(val v 1)")
        self.refuses("NoFace", "P", "(hide t (?a) num) (val v 1)")
        self.refuses("NoFace", "P", "(hide t () num)")
        self.refuses("NoFace", "P", "(hide t () bit) (val v 1)")
        self.refuses("NoKind", "P", "(hide t () num) (val v (call 1 1))")
        self.refuses("NoKind", "P", "(hide t () num) (val v 1) (val w (plus On 1))")
        self.refuses("NoFace", "P", "")

    def no_tie(self, items, body):
        ground = BIT + PAIR + LIST + "(kind opt () (None) (Some num)) (kind opu () (Sone num) (Nope)) (kind one (?a) (One))"
        program = read(ground + f"(face F () {items}) (part P F {body}) (main 0)")
        self.refuses("NoTie", "P", body, program)

    def test_faces_that_can_t_be_looked_at(self):
        self.no_tie("(hide h 1) (val n num)", "(hide h (?a) ?a) (val n 1)")
        self.no_tie("(hide t 0) (hide h 2)", "(hide t () num) (hide h (?a ?b) ?a)")
        self.no_tie("(hide h 1)", "(hide h (?a) num)")
        any_kind = "(ring ((f x (call f x))) f)"
        for kind in (
            "(-> ?a ?a)", "(-> num num)", "(-> (-> bit bit) bit)", "(-> (list bit) num)", "(-> opt num)", "(-> opu num)", "(-> (pair bit bit) num)",
            "(-> (one num) num)", "(-> bit ?a)", "(-> bit (list bit))", "(-> bit opt)", "(-> bit (pair num num))", "(-> bit (one bit))",
            "(-> bit (-> num bit))", "(-> num (-> bit bit))", "(-> t (-> opt t))", "(-> bit (-> bit (list num)))", "(-> (-> t t) num)",
            "(-> spot num)", "(-> bit spot)",
        ):
            items = f"(hide t 0) (val v {kind})"
            body = f"(hide t () num) (val v {any_kind})"
            if "spot" in kind:
                program = read(BIT + f"(record spot () (left num)) (face F () {items}) (part P F {body}) (main 0)")
                self.refuses("NoTie", "P", body, program)
            else:
                self.no_tie(items, body)
        for kind, value in (("?a", "(ring ((f x (call f x))) (call f 0))"), ("opt", "None"), ("(list num)", "Nil"), ("(one num)", "One")):
            self.no_tie(f"(val v {kind})", f"(val v {value})")

    def test_a_giver_s_or_another_part_s_hide_can_t_be_looked_at(self):
        ground = "(face C () (hide t 0) (val v t)) (part Q C (hide t () num) (val v 1)) (face F ((X C)) (hide t 0) (val w K))"
        for kind, value in (("X.t", "Q.v"), ("(-> X.t num)", "(fun x 1)"), ("Q.t", "Q.v"), ("(-> t Q.t)", "(fun x Q.v)")):
            body = f"(hide t () num) (val w {value})"
            program = read(ground.replace("K", kind) + f"(part P (F Q) {body}) (main 0)")
            self.refuses("NoTie", "P", body, program)

    def test_what_can_be_looked_at(self):
        for kind, value in (
            ("num", "1"), ("bit", "On"), ("t", "1"), ("(-> bit num)", "(fun x 1)"), ("(-> t (-> bit (-> t bit)))", "(fun x (fun y (fun z On)))"),
            ("(-> solo solo)", "(fun x x)"),
        ):
            self.of_face(True, f"(hide t 0) (val v {kind})", f"(hide t () num) (val v {value})", f"(hide t () num) (val v {value})",
                         [("t", 1, 1)], ground="(kind solo () (Solo))")

    def test_two_reasons_at_once(self):
        # No name goes ahead of all; then looking over; then the tie; then finding.
        self.refuses("NoName", "Q", "(val v 1) (val v 2)")
        self.refuses("NoName", "A", "(val v (call 1 1))")
        self.refuses("Twice", "W", "(hide h (?a) ?a) (val n 1) (val n 2)")
        self.refuses("NoCount", "W", "(hide h (?a) ?a) (val n (On 1))")
        self.refuses("NoName", "W", "(hide h (?a) ?a) (val n x)")
        self.refuses("NoTie", "W", "(hide h (?a) ?a) (val n 2)")
        self.refuses("NoTie", "W", "(hide h (?a) ?a) (val n (call 1 1))")
        self.refuses("NoTie", "W", "(val n 1)")
        self.refuses("NoTie", "W", "")
        self.refuses("Twice", "P", "(val v 1) (val v (call 1 1))")
        self.refuses("NoName", "P", "(val v (call 1 x))")
        self.refuses("NoFace", "P", f"(val v {DEEP})")
        self.refuses("NoKind", "P", f"(hide t () num) (val v (plus {GREAT} On))")


class Steady(Ties):

    def test_what_is_handed_in_stays(self):
        program = flag(NUMS)
        body = things_of(BITS)
        tie = tie_of(NUMS, BITS)
        kept = copy.deepcopy((program, body, tie))
        for turn in range(2):
            self.assertIs(tied(program, "Fl", body, tie), True)
            self.assertEqual(told_of(tied, program, "No", body, tie), "NoName")
            self.assertIs(tied(program, "Fl", body, tie[:1]), False)
            self.assertEqual(told_of(tied, program, "Fl", body[:1], tie), "NoFace")
        self.assertEqual((program, body, tie), kept)

    def test_the_tie_may_be_changed_behind(self):
        tie = tie_of(NUMS, BITS)
        program = flag(NUMS)
        self.assertIs(tied(program, "Fl", things_of(BITS), tie), True)
        tie.pop()
        self.assertIs(tied(program, "Fl", things_of(BITS), tie), False)


class Plainly(Ties):

    def test_changed_bodies_and_ties(self):
        choice = random.Random(9)
        counts = {}
        while sum(counts.values()) < 120:
            one, other = choice.choice(list(VALUES)), choice.choice(list(VALUES))
            program = flag(one)
            place = len(program) - 2
            made = changed_program(choice, program[:place] + (program[place][:3] + things_of(other),) + program[place + 1:])
            body = made[place][3:] if len(made) == len(program) and made[place][:1] == ("part",) else ()
            if not is_formed(made) or not is_body(body) or told_of(look_over, made) is not None:
                continue
            tie = tie_of(one, other) + choice.choice(([], [], [("t", 0, 0)], [("t", OFF, 1)], [("u", 1, 1)]))
            most = choice.choice((100, 100, 2, 1))
            told = told_of(tied, program, "Fl", body, tie, most)
            if not isinstance(told, str):
                self.assertIs(told, plain_tied(program, "Fl", body, tie, most), (program, body, tie))
            counts[told] = counts.get(told, 0) + 1
        self.assertGreater(counts[True], 10)
        self.assertGreater(counts[False], 10)


if __name__ == "__main__":
    unittest.main()
