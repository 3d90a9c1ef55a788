"""[23], [24]: programs run as they stand."""

import unittest

from facework.errors import FaceError
from facework.reading import read
from facework.running import run
from facework.scopes import look_over
from helping import Case, text_of
from programs import BIT, COUNT, LIST, NUMBERS, ONES, PAIR, PROGRAMS, calls_in_turn, calls_within

SIXTY = 10 ** 60 - 1
# Phrases that are refused, each in its own way, when they are worked out.
STUCK = "(plus 1 (fun x x))"
GREAT = f"(times {10 ** 29} (times {10 ** 29} 1000))"
DEEP = "(ring ((f x (call f x))) (call f 0))"
# A call of a function that calls nothing, so it is too long where none is let.
LONG = "(call (fun x x) 0)"


def told(text, most=300):
    """What a run comes to: its number, or the name of what refuses it."""
    program = read(text)
    look_over(program)
    try:
        return run(program, most)
    except FaceError as refusal:
        return type(refusal).__name__


class Phrases(Case):

    def comes_to(self, wanted, phrase, ground=""):
        number = told(ground + f"(main {phrase})")
        self.assertEqual(number, wanted, phrase)
        self.assertIs(type(number), type(wanted))

    def test_numbers(self):
        for number in (0, 5, -5, 10 ** 30 - 1, 1 - 10 ** 30):
            self.comes_to(number, number)

    def test_sums(self):
        self.comes_to(7, "(plus 3 4)")
        self.comes_to(-1, "(minus 3 4)")
        self.comes_to(-12, "(times 3 -4)")
        self.comes_to(1, "(minus (plus 3 4) (times 2 3))")

    def test_less(self):
        for one, other, wanted in ((1, 2, 1), (2, 1, 0), (1, 1, 0), (-2, -1, 1), (-1, -2, 0), (0, 0, 0), (-1, 0, 1)):
            self.comes_to(wanted, f"(less {one} {other})")

    def test_if(self):
        self.comes_to(3, "(if 0 2 3)")
        for number in (1, -1, 7, 10 ** 29, -10 ** 29):
            self.comes_to(2, f"(if {number} 2 3)")
        self.comes_to(4, "(if (less 1 2) (if (less 2 1) 3 4) 5)")

    def test_only_the_chosen_phrase_of_an_if(self):
        self.comes_to(2, f"(if 1 2 {STUCK})")
        self.comes_to(2, f"(if 0 {STUCK} 2)")
        self.comes_to("Stuck", f"(if 1 {STUCK} 2)")
        self.comes_to("Stuck", f"(if 0 2 {STUCK})")

    def test_functions_and_calls(self):
        self.comes_to(5, "(call (fun x (plus x 1)) 4)")
        self.comes_to(6, "(call (call (fun x (fun y (minus x y))) 10) 4)")
        self.comes_to(9, "(call (fun f (call f (call f 7))) (fun x (plus x 1)))")

    def test_a_function_is_not_worked_out_where_it_is_made(self):
        self.comes_to(1, f"(let f (fun x {STUCK}) 1)")
        self.comes_to(1, f"(ring ((f x {STUCK})) 1)")
        self.comes_to("Stuck", f"(let f (fun x {STUCK}) (call f 1))")

    def test_lets(self):
        self.comes_to(3, "(let x 1 (let y 2 (plus x y)))")
        self.comes_to(6, "(let x 1 (let x (plus x 2) (plus x x)))")
        self.comes_to("Stuck", f"(let x {STUCK} 1)")

    def test_functions_keep_what_their_names_were(self):
        self.comes_to(12, "(let x 2 (let f (fun y (plus x y)) (let x 100 (call f 10))))")
        self.comes_to(12, "(let f (let x 2 (fun y (plus x y))) (let x 100 (call f 10)))")
        self.comes_to(25, "(let f (fun x (fun y (plus x y))) (let g (call f 5) (let h (call f 50) (call g 20))))")
        self.comes_to(1, "(call (call (fun x (fun x x)) 0) 1)")
        self.comes_to(3, "(let x 3 (let f (fun y x) (call (fun x (call f x)) 9)))")

    def test_rings_whose_functions_call_one_another(self):
        even = "(ring ((even n (if n (call odd (minus n 1)) 1)) (odd n (if n (call even (minus n 1)) 0))) "
        self.comes_to(1, even + "(call even 8))")
        self.comes_to(0, even + "(call even 7))")
        self.comes_to(0, even + "(call odd 8))")
        self.comes_to(1, even + "(call odd 7))")

    def test_rings_hide_and_are_hidden(self):
        self.comes_to(4, "(let f (fun x 3) (ring ((f x (if x (call f 0) 4))) (call f 1)))")
        self.comes_to(9, "(ring ((f f (plus f 1))) (call f 8))")
        self.comes_to(5, "(let k 5 (ring ((f x k)) (let k 6 (call f 1))))")
        self.comes_to(7, "(ring ((f x (call g x)) (g x 7)) (let g (fun x 8) (call f 0)))")
        self.comes_to(2, "(ring ((f x 1)) (ring ((g x (call f x)) (f x 2)) (call g 0)))")

    def test_tags_and_cases(self):
        self.comes_to(2, "(case On ((Off) 1) ((On) 2))", BIT)
        self.comes_to(1, "(case Off ((On) 2) ((Off) 1))", BIT)
        self.comes_to(1, "(case (Cons 3 (Cons 2 Nil)) ((Nil) 0) ((Cons a b) (case b ((Nil) 9) ((Cons c d) (minus a c)))))", LIST)
        four = "(kind k () (A num num num num) (B) (C num) (D num num) (E num num num) (F))"
        arms = "((F) 6) ((E x y z) (minus x (minus y z))) ((D y x) (minus x y)) ((C x) x) ((B) 5) ((A a b c d) (minus (minus a b) (minus c d)))"
        for phrase, wanted in (("(A 10 4 3 1)", 4), ("B", 5), ("(C 8)", 8), ("(D 1 9)", 8), ("(E 9 5 2)", 6), ("F", 6)):
            self.comes_to(wanted, f"(case {phrase} {arms})", four)

    def test_only_the_chosen_arm(self):
        self.comes_to(2, f"(case On ((Off) {STUCK}) ((On) 2))", BIT)
        self.comes_to("Stuck", f"(case Off ((Off) {STUCK}) ((On) 2))", BIT)

    def test_an_arm_s_names_hide_others(self):
        self.comes_to(4, "(let x 1 (case (Cons 4 Nil) ((Nil) x) ((Cons x y) x)))", LIST)
        self.comes_to(1, "(let x 1 (case Nil ((Nil) x) ((Cons x y) x)))", LIST)

    def test_records_and_picks(self):
        record = "(record r () (a num) (b num) (c num) (d num))"
        for field, wanted in (("a", 1), ("b", 2), ("c", 3), ("d", 4)):
            self.comes_to(wanted, f"(pick {field} (make r 1 2 3 4))", record)
        self.comes_to(3, "(pick one (pick two (make pair 1 (make pair 3 4))))", PAIR)

    def test_programs(self):
        for name, program in PROGRAMS.items():
            with self.subTest(name):
                self.assertEqual(run(program), NUMBERS[name])


class Order(Case):

    def first_of(self, form):
        """At the first place where two would refuse unlike, the first one tells."""
        self.assertEqual(told(form.replace("@one", STUCK).replace("@two", GREAT)), "Stuck", form)
        self.assertEqual(told(form.replace("@one", GREAT).replace("@two", STUCK)), "TooGreat", form)

    def test_phrases_are_worked_out_from_the_left(self):
        four = "(kind k () (T num num num num))"
        for phrase in (
            "(plus @one @two)", "(minus @one @two)", "(times @one @two)", "(less @one @two)", "(call @one @two)",
            "(let x @one @two)", "(if @one @two @two)", "(if @one @two 0)", "(if @one 0 @two)", "(call (fun x @two) @one)",
            "(let x (make pair @one @two) 0)", "(pick one (make pair @one @two))", "(let x (T 1 @one 2 @two) 0)",
            "(case (T @one 1 @two 2) ((T a b c d) 0))", "(case (T 1 2 3 @one) ((T a b c d) @two))",
            "(ring ((f x @two)) (call f @one))", "(plus (plus 1 @one) @two)", "(plus @one (plus 1 @two))",
        ):
            self.first_of(PAIR + four + f"(main {phrase})")

    def test_vals_are_worked_out_in_order_and_declarations_too(self):
        for declarations in (
            "(part P Bare (val v @one) (val w @two)) (main 0)",
            "(part P Bare (val v @one)) (part Q Bare (val v @two)) (main 0)",
            "(part P Bare (val v @one)) (main @two)",
            "(part P Bare) (maker M ((X Bare)) Bare (val v @two)) (part Q Bare (val v @one)) (apply R M P) (main 0)",
            "(part P Bare) (maker M ((X Bare)) Bare (val v @one) (val w @two)) (apply R M P) (main 0)",
        ):
            self.first_of("(face Bare ())" + declarations)

    def test_what_a_phrase_does_comes_behind_its_phrases(self):
        for form in ("(call 1 @)", "(plus (fun x x) @)", "(plus On @)", "(less On @)", "(times On @)", "(minus On @)"):
            self.assertEqual(told(BIT + f"(main {form})".replace("@", GREAT)), "TooGreat")
            self.assertEqual(told(BIT + f"(main {form})".replace("@", "0")), "Stuck")
        # A call counts when its argument has its value.
        self.assertEqual(told(f"(main (call (fun x x) {STUCK}))", 0), "Stuck")
        self.assertEqual(told("(main (call (fun x x) 0))", 0), "TooLong")
        self.assertEqual(told("(main (call 1 (call (fun x x) 0)))", 0), "TooLong")
        self.assertEqual(told("(main (call 1 0))", 0), "Stuck")


class Parts(Case):

    def test_vals_that_nobody_asks_for(self):
        self.assertEqual(told(f"(face F ()) (part P F (val v {STUCK})) (main 0)"), "Stuck")
        self.assertEqual(told(f"(face F ()) (part P F (val v {GREAT})) (main 0)"), "TooGreat")
        self.assertEqual(told(f"(face F ()) (part P F (val v {DEEP})) (main 0)"), "TooDeep")
        self.assertEqual(told(f"(face F ()) (part P F (val v {LONG})) (main 0)", 0), "TooLong")

    def test_a_maker_that_nobody_applies(self):
        self.assertEqual(told(f"(face F ()) (maker M ((X F)) F (val v {STUCK})) (main 6)"), 6)

    def test_a_maker_s_vals_are_worked_out_for_each_apply(self):
        ground = f"(face F ()) (part P F) (maker M ((X F)) F (val v {LONG}) (val w {LONG}))"
        applies = ["(apply A M P)", "(apply B M A)", "(apply C M P)"]
        for count in range(4):
            text = ground + "".join(applies[:count]) + "(main 1)"
            self.assertEqual(told(text, 2 * count), 1)
            if count:
                self.assertEqual(told(text, 2 * count - 1), "TooLong")

    def test_a_val_doesn_t_know_itself_but_those_ahead(self):
        text = "(face F () (val a num) (val b num)) (part P F (val a 4) (val c (plus a 1)) (val b (times a c))) (main (plus P.a P.b))"
        self.assertEqual(told(text), 24)

    def test_vals_hide_nothing_of_other_parts(self):
        text = (
            "(face F () (val a num)) (part P F (val a 1)) (part Q F (val b 10) (val a (plus b P.a))) (part R F (val a (plus Q.a P.a)))"
            "(main (plus (times 1000 R.a) (let a 5 (plus a Q.a))))"
        )
        self.assertEqual(told(text), 12016)

    def test_functions_of_parts_keep_their_vals(self):
        text = (
            "(face F () (val get (-> num num)) (val n num)) (part P F (val n 7) (val get (fun x (plus x n))))"
            "(part Q F (val n 100) (val get (fun x (call P.get (plus x n))))) (main (let n 1000 (call Q.get n)))"
        )
        self.assertEqual(told(text), 1107)

    def test_makers_over_parts_and_applied_ones(self):
        ground = (
            "(face F () (val get (-> num num))) (part P F (val get (fun x (plus x 1)))) (part Q F (val get (fun x (times x 3))))"
            "(maker M ((X F) (Y F)) F (val get (fun x (call X.get (call Y.get x)))))"
        )
        self.assertEqual(told(ground + "(apply R M P Q) (main (call R.get 5))"), 16)
        self.assertEqual(told(ground + "(apply R M Q P) (main (call R.get 5))"), 18)
        self.assertEqual(told(ground + "(apply R M P Q) (apply S M R Q) (apply T M S R) (main (call T.get 5))"), ((5 * 3 + 1) * 3) * 3 + 1)
        # Parts that are called like the givers, and stand for one another.
        self.assertEqual(told(ground + "(apply Y M P P) (apply X M Q Q) (apply R M Y X) (main (call R.get 5))"), 47)
        self.assertEqual(told(ground + "(apply X M P Q) (apply Y M Q Q) (apply R M X Y) (main (plus (call R.get 1) (call X.get 10)))"), 28 + 31)

    def test_hides_and_faces_do_nothing(self):
        text = "(face F () (hide t 0) (val a num)) (part P F (val a 1)) (part Q F (hide t () num) (val a 2)) (main (minus P.a Q.a))"
        self.assertEqual(told(text), -1)


class Stuck(Case):

    def stuck(self, phrase, ground=BIT + PAIR + LIST):
        program = read(ground + f"(main {phrase})")
        look_over(program)
        self.refused("Stuck", run, program)

    def test_calls_of_no_function(self):
        for phrase in ("(call 1 2)", "(call On 2)", "(call (make pair 1 2) 3)", "(call (call (fun x x) 1) 2)"):
            self.stuck(phrase)

    def test_sums_and_ifs_of_no_number(self):
        for word in ("plus", "minus", "times", "less"):
            for value in ("On", "(fun x x)", "(make pair 1 2)", "(Cons 1 Nil)"):
                self.stuck(f"({word} 1 {value})")
                self.stuck(f"({word} {value} 1)")
                self.stuck(f"({word} {value} {value})")
                self.stuck(f"(if {value} 1 2)")

    def test_cases_of_no_block_or_of_one_without_an_arm(self):
        arms = "((On) 1) ((Off) 2)"
        for value in ("1", "0", "(fun x x)", "Nil", "(Cons 1 Nil)", "(make pair 1 2)"):
            self.stuck(f"(case {value} {arms})")

    def test_picks_of_no_such_record(self):
        for value in ("1", "(fun x x)", "On", "(Cons 1 Nil)", "(make other 1 2)"):
            self.stuck(f"(pick one {value})", BIT + PAIR + LIST + "(record other () (three num) (four num))")

    def test_a_path_to_a_val_that_its_part_has_not(self):
        ground = "(face F () (val a num) (val b num)) (part P F (val a 1))"
        self.assertEqual(told(ground + "(main P.a)"), 1)
        self.stuck("P.b", ground)
        self.stuck("(plus P.a P.b)", ground)
        # Only where it is come to, and in its turn.
        self.assertEqual(told(ground + "(main (if 1 P.a P.b))"), 1)
        self.assertEqual(told(ground + f"(main (plus {GREAT} P.b))"), "TooGreat")
        self.assertEqual(told(ground + f"(main (plus P.b {GREAT}))"), "Stuck")
        maker = ground + "(face G () (val c num)) (maker M ((X F)) G (val c X.b)) (part Q F (val b 4))"
        self.assertEqual(told(maker + "(apply R M Q) (main R.c)"), 4)
        self.assertEqual(told(maker + "(apply R M P) (main 0)"), "Stuck")
        self.assertEqual(told(maker + "(part S G (val c 1)) (apply R M S) (main 0)"), "Stuck")

    def test_a_val_of_the_body_that_the_face_has_not_is_no_other_part_s(self):
        ground = "(face F () (val a num) (val b num)) (part P F (val a 1) (val c 5)) (part Q F (val b 3) (val a 2))"
        self.assertEqual(told(ground + "(main (plus Q.a Q.b))"), 5)
        self.stuck("P.b", ground)

    def test_a_main_that_is_no_number(self):
        for value in ("On", "(fun x x)", "(make pair 1 2)", "(Cons 1 Nil)"):
            self.stuck(value)

    def test_stuck_comes_behind_the_main_s_phrases(self):
        self.assertEqual(told(f"(main (let x {GREAT} (fun x x)))"), "TooGreat")
        self.assertEqual(told("(main (call (fun x (fun y y)) 0))"), "Stuck")
        self.assertEqual(told("(main (call (fun x (fun y y)) 0))", 0), "TooLong")


class Great(Case):

    def run_of(self, phrase):
        try:
            return run((("main", phrase),))
        except FaceError as refusal:
            return type(refusal).__name__

    def test_sixty_figures_and_one_more(self):
        self.assertEqual(self.run_of(("plus", SIXTY, 0)), SIXTY)
        self.assertEqual(self.run_of(("plus", SIXTY, 1)), "TooGreat")
        self.assertEqual(self.run_of(("plus", SIXTY - 1, 1)), SIXTY)
        self.assertEqual(self.run_of(("minus", SIXTY, -1)), "TooGreat")
        self.assertEqual(self.run_of(("minus", SIXTY, 1)), SIXTY - 1)
        self.assertEqual(self.run_of(("times", 10 ** 30, 10 ** 29)), 10 ** 59)
        self.assertEqual(self.run_of(("times", 10 ** 30, 10 ** 30)), "TooGreat")
        self.assertEqual(self.run_of(("times", 10 ** 30 - 1, 10 ** 30)), 10 ** 60 - 10 ** 30)

    def test_below_nought(self):
        self.assertEqual(self.run_of(("minus", -SIXTY, 0)), -SIXTY)
        self.assertEqual(self.run_of(("minus", -SIXTY, 1)), "TooGreat")
        self.assertEqual(self.run_of(("plus", -SIXTY, -1)), "TooGreat")
        self.assertEqual(self.run_of(("plus", -SIXTY + 1, -1)), -SIXTY)
        self.assertEqual(self.run_of(("times", 10 ** 30, -10 ** 29)), -10 ** 59)
        self.assertEqual(self.run_of(("times", -10 ** 30, 10 ** 30)), "TooGreat")
        self.assertEqual(self.run_of(("plus", -SIXTY, SIXTY)), 0)

    def test_a_number_by_itself_is_not_refused(self):
        self.assertEqual(self.run_of(SIXTY), SIXTY)
        self.assertEqual(self.run_of(("less", SIXTY, -SIXTY)), 0)
        self.assertEqual(self.run_of(("if", SIXTY, 1, 2)), 1)

    def test_it_is_refused_as_soon_as_it_comes_to_it(self):
        self.assertEqual(self.run_of(("minus", ("plus", SIXTY, 1), 1)), "TooGreat")
        self.assertEqual(self.run_of(("times", 0, ("times", SIXTY, SIXTY))), "TooGreat")
        self.refused("TooGreat", run, (("main", ("let", "x", ("plus", SIXTY, 1), 0)),))


class Calls(Case):

    def test_just_as_many_calls_as_most_and_one_more(self):
        for count in (0, 1, 2, 5, 30):
            text = f"(main {text_of(calls_in_turn(count))})"
            self.assertEqual(told(text, count), 0)
            self.assertEqual(told(text, count + 1), 0)
            if count:
                self.assertEqual(told(text, count - 1), "TooLong")

    def test_most_is_300_where_it_isn_t_told(self):
        def of(count):
            return (("main", calls_in_turn(count)),)

        self.assertEqual(run(of(300)), 0)
        self.refused("TooLong", run, of(301))
        self.assertEqual(run(of(400), 400), 0)
        self.refused("TooLong", run, of(401), 400)
        self.assertEqual(run(of(301), most=301), 0)

    def test_a_most_of_0_and_below(self):
        for most in (0, -1, -300):
            self.assertEqual(told("(main (plus 1 2))", most), 3)
            self.assertEqual(told("(main (call (fun x x) 1))", most), "TooLong")
        self.refused("TooLong", run, read("(main (call (fun x x) 1))"), -1)

    def test_ten_calls_under_way_and_eleven(self):
        for count in range(1, 11):
            self.assertEqual(told(f"(main {calls_within(count)})"), 7)
        self.assertEqual(told(f"(main {calls_within(11)})"), "TooDeep")
        self.refused("TooDeep", run, read(f"(main {calls_within(12)})"))

    def test_a_last_call_is_under_way_until_its_phrase_has_its_value(self):
        calls = "(ring ((f x (if x (let y (call f (minus x 1)) y) 7))) (call f N))"
        for phrase in (calls, calls.replace("(let y (call f (minus x 1)) y)", "(call f (minus x 1))")):
            self.assertEqual(told(f"(main {phrase})".replace("N", "9")), 7)
            self.assertEqual(told(f"(main {phrase})".replace("N", "10")), "TooDeep")

    def test_where_both_are_due_at_the_same_call(self):
        text = f"(main {calls_within(11)})"
        self.assertEqual(told(text, 11), "TooDeep")
        self.assertEqual(told(text, 10), "TooLong")
        self.assertEqual(told(text, 9), "TooLong")

    def test_calls_that_have_come_back_are_under_way_no_more(self):
        ten = calls_within(10)
        self.assertEqual(told(f"(main (plus {ten} (plus {ten} {ten})))"), 21)
        self.assertEqual(told(f"(main (call (fun x (plus x {calls_within(9)})) {ten}))"), 14)
        self.assertEqual(told(f"(main (call (fun x (plus x {ten})) {ten}))"), "TooDeep")
        self.assertEqual(told(f"(face F () (val v num)) (part P F (val v {ten}) (val w {ten})) (main (plus P.v {ten}))"), 14)

    def test_an_argument_is_worked_out_ahead_of_its_call(self):
        phrase = "0"
        for turn in range(15):
            phrase = f"(call f {phrase})"
        self.assertEqual(told(f"(main (let f (fun x (plus x 1)) {phrase}))"), 15)
        self.assertEqual(told(f"(main (let f (fun x (plus x 1)) {phrase}))", 14), "TooLong")

    def test_the_calls_of_all_declarations_count(self):
        text = f"(face F () (val v num)) (part P F (val v {LONG}) (val w {LONG})) (part Q F (val v {LONG})) (main {LONG})"
        self.assertEqual(told(text, 4), 0)
        self.assertEqual(told(text, 3), "TooLong")

    def test_a_call_of_no_function_is_stuck_ahead_of_all(self):
        self.assertEqual(told("(main (call 1 1))", 0), "Stuck")
        self.assertEqual(told("(main (ring ((f x (if x (call f (minus x 1)) (call 1 1)))) (call f 9)))"), "Stuck")


class Steady(Case):

    def test_runs_hang_on_nothing_asked_earlier(self):
        texts = ["(main 5)", f"(main {STUCK})", f"(main {GREAT})", f"(main {DEEP})", f"(main {text_of(calls_in_turn(4))})", COUNT + ONES + "(main 3)"]
        wanted = [told(text, 3) for text in texts]
        self.assertEqual(wanted, [5, "Stuck", "TooGreat", "TooLong", "TooLong", 3])
        for turn in range(2):
            for one in range(len(texts)):
                for other in range(len(texts)):
                    self.assertEqual((told(texts[one], 3), told(texts[other], 3)), (wanted[one], wanted[other]))

    def test_the_program_stays(self):
        for name, program in PROGRAMS.items():
            kept = read(" ".join(text_of(declaration) for declaration in program))
            run(program)
            self.assertEqual(program, kept)

    def test_deep_phrases_in_each_call_under_way(self):
        deep = ("if", "x", ("call", "f", ("minus", "x", 1)), 7)
        for turn in range(95):
            deep = ("plus", 0, deep) if turn % 2 else ("let", "y", deep, "y")
        program = (("main", ("ring", (("f", "x", deep),), ("call", "f", 9))),)
        self.assertEqual(run(program), 7)

    def test_deep_values(self):
        text = LIST + (
            "(main (ring ((go n (fun l (if n (call (call go (minus n 1)) (Cons n l)) l))))"
            " (case (call (call go 3) Nil) ((Nil) 0) ((Cons a b) a))))"
        )
        self.assertEqual(told(text), 1)
        phrase = "Nil"
        for turn in range(99):
            phrase = ("Cons", turn, phrase)
        program = read(LIST + "(main 0)")[:1] + (("main", ("case", phrase, (("Nil",), 0), (("Cons", "a", "b"), "a"))),)
        self.assertEqual(run(program), 98)


if __name__ == "__main__":
    unittest.main()
