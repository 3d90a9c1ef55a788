"""[25], [24]: the machine, each of its rows, and what it refuses."""

import copy
import unittest

from facework.errors import FaceError
from facework.machine import done
from helping import Case

SIXTY = 10 ** 60 - 1
BACK = ("back",)
CALL = ("call",)
KEEP = ("keep",)
STORE = ("store",)


def number(n):
    return ("number", n)


def local(i):
    return ("local", i)


def told(code, most=300):
    """What the machine comes to: the number, or the name of what refuses it."""
    try:
        return done(tuple(code), most)
    except FaceError as refusal:
        return type(refusal).__name__


def weighed(places):
    """Rows that lay the locals of these places as the figures of one number."""
    rows = [number(0)]
    for place in places:
        rows += [number(10), ("times",), local(place), ("plus",)]
    return rows


def rows_with(rows, *functions):
    """The rows and a back, and behind them functions, each with a back; what they are told is where these begin."""
    starts = []
    place = len(rows([0] * len(functions))) + 1
    for function in functions:
        starts.append(place)
        place += len(function) + 1
    code = rows(starts) + [BACK]
    for function in functions:
        code += function + [BACK]
    return code


class Rows(Case):

    def comes_to(self, wanted, code, most=300):
        answer = told(code, most)
        self.assertEqual(answer, wanted)
        self.assertIs(type(answer), type(wanted))

    def test_numbers(self):
        for n in (0, 5, -5, SIXTY, -SIXTY):
            self.comes_to(n, [number(n), BACK])

    def test_locals_from_0_on(self):
        code = [number(7), KEEP, number(8), KEEP, number(9), KEEP]
        for place, wanted in enumerate((7, 8, 9)):
            self.comes_to(wanted, code + [local(place), BACK])

    def test_globals_from_0_on(self):
        code = [number(7), STORE, number(8), STORE, number(9), STORE]
        for place, wanted in enumerate((7, 8, 9)):
            self.comes_to(wanted, code + [("global", place), BACK])

    def test_globals_are_the_same_in_each_frame(self):
        code = rows_with(
            lambda to: [number(4), STORE, ("close", to[0], ()), number(0), CALL, ("global", 1), ("plus",)],
            [("global", 0), number(30), STORE, number(1), ("plus",)],
        )
        self.comes_to(35, code)

    def test_keep_and_drop(self):
        three = [number(7), KEEP, number(8), KEEP, number(9), KEEP]
        self.comes_to(789, three + [("drop", 0)] + weighed((0, 1, 2)) + [BACK])
        self.comes_to(782, three + [("drop", 1), number(2), KEEP] + weighed((0, 1, 2)) + [BACK])
        self.comes_to(72, three + [("drop", 2), number(2), KEEP] + weighed((0, 1)) + [BACK])
        self.comes_to(2, three + [("drop", 3), number(2), KEEP] + weighed((0,)) + [BACK])

    def test_keep_takes_the_top_alone(self):
        self.comes_to(5, [number(5), number(6), KEEP, BACK])
        self.comes_to(5, [number(5), number(6), STORE, BACK])

    def test_sums_are_of_the_one_beneath_and_the_top(self):
        for word, wanted in (("plus", 13), ("minus", 7), ("times", 30), ("less", 0)):
            self.comes_to(wanted, [number(10), number(3), (word,), BACK])
        self.comes_to(1, [number(3), number(10), ("less",), BACK])
        self.comes_to(0, [number(3), number(3), ("less",), BACK])
        self.comes_to(-7, [number(3), number(10), ("minus",), BACK])
        self.comes_to(108, [number(100), number(10), number(2), ("minus",), ("plus",), BACK])

    def test_unless(self):
        for n in (1, -1, 5, SIXTY):
            self.comes_to(4, [number(n), ("unless", 4), number(4), BACK, number(5), BACK])
        self.comes_to(5, [number(0), ("unless", 4), number(4), BACK, number(5), BACK])
        # The top goes in both.
        self.comes_to(9, [number(9), number(0), ("unless", 3), BACK])
        self.comes_to(9, [number(9), number(1), ("unless", 3), BACK])

    def test_jump(self):
        self.comes_to(6, [("jump", 3), number(5), BACK, number(6), BACK])
        self.comes_to(7, [("jump", 3), number(7), BACK, ("jump", 1)])

    def test_close_and_call(self):
        self.comes_to(6, rows_with(lambda to: [("close", to[0], ()), number(5), CALL], [local(0), number(1), ("plus",)]))

    def test_close_with_one_local_twice_and_others_in_another_order(self):
        three = [number(7), KEEP, number(8), KEEP, number(9), KEEP]
        for places, wanted in (((), 1), ((0,), 71), ((2,), 91), ((2, 0, 1), 9781), ((1, 1), 881), ((0, 2, 0, 2), 79791)):
            code = rows_with(
                lambda to: three + [("close", to[0], places), number(1), CALL], weighed(range(len(places) + 1)),
            )
            self.comes_to(wanted, code)

    def test_a_function_keeps_what_locals_were(self):
        code = rows_with(
            lambda to: [number(7), KEEP, ("close", to[0], (0,)), ("drop", 1), number(2), KEEP, number(1), CALL, local(0), ("plus",)],
            weighed((0, 1)),
        )
        self.comes_to(73, code)

    def test_frames_are_new_for_each_call(self):
        # What one call keeps is not there in the next one.
        code = rows_with(
            lambda to: [number(7), KEEP, ("close", to[0], (0,)), KEEP, local(1), number(1), CALL, local(1), number(2), CALL,
                        number(1000), ("times",), ("plus",)],
            [number(5), KEEP] + weighed((0, 1, 2)),
        )
        self.comes_to(715 + 725000, code)

    def test_the_caller_s_locals_are_there_again(self):
        code = rows_with(
            lambda to: [number(3), KEEP, ("close", to[0], ()), number(4), CALL, KEEP] + weighed((0, 1)),
            [number(9), KEEP, local(0)],
        )
        self.comes_to(34, code)

    def test_functions_of_functions(self):
        code = rows_with(
            lambda to: [("close", to[0], ()), number(5), CALL, number(3), CALL],
            [("close", 8, (0,))],
            [local(0), local(1), ("minus",)],
        )
        self.assertEqual(code[8], local(0))
        self.comes_to(2, code)

    def test_the_first_frame_s_back_ends_the_run(self):
        self.comes_to(5, [number(5), BACK, number(6), ("plus",), BACK])

    def test_rings_that_keep_nothing(self):
        code = rows_with(lambda to: [("ring", ((to[0], ()), (to[1], ()))), local(0), number(3), CALL, local(1), number(3), CALL, ("plus",)],
                         [local(0), number(1), ("plus",)], [local(0), number(10), ("times",)])
        self.comes_to(34, code)

    def test_rings_whose_functions_keep_one_another(self):
        # Whether a number is even: each asks the other of one less.
        asks = lambda here, last: [local(1), ("unless", here + 8), local(0), local(1), number(1), ("minus",), CALL, ("jump", here + 9), number(last)]
        for n in range(9):
            code = [("ring", ((5, (1,)), (15, (0,)))), local(0), number(n), CALL, BACK] + asks(5, 1) + [BACK] + asks(15, 0) + [BACK]
            self.comes_to(1 - n % 2, code)

    def test_ring_s_places_are_looked_for_when_all_are_there(self):
        # Locals ahead, the ring's own, one twice, in another order.
        code = rows_with(
            lambda to: [number(7), KEEP, number(8), KEEP, ("ring", ((to[0], (3, 1, 0, 1, 2)), (to[1], ()))), local(2), number(1), CALL],
            weighed((1, 2, 3, 5)) + [local(0), number(0), CALL, ("plus",)],
            [number(100000)],
        )
        self.comes_to(108781, code)

    def test_ring_s_functions_are_the_last_locals_in_order(self):
        code = rows_with(
            lambda to: [number(4), KEEP, ("ring", tuple((one, ()) for one in to)), number(9), KEEP,
                        local(1), number(0), CALL, local(2), number(0), CALL, local(3), number(0), CALL,
                        ("minus",), ("minus",), local(0), ("plus",), local(4), ("plus",)],
            [number(100)], [number(20)], [number(3)],
        )
        self.comes_to(100 - (20 - 3) + 4 + 9, code)

    def test_a_ring_s_function_is_changed_by_no_other_s(self):
        # The same places, but each has what it keeps for itself.
        code = rows_with(
            lambda to: [number(6), KEEP, ("ring", ((to[0], (0,)), (to[1], (0,)))), local(1), number(0), CALL, local(2), number(0), CALL, ("plus",)],
            [number(1), KEEP, local(2), local(0), ("plus",)], [number(20), KEEP, local(2), local(0), ("plus",)],
        )
        self.comes_to(33, code)

    def test_blocks_and_fields(self):
        four = [number(1), number(2), number(3), number(4), ("block", 0, 4)]
        for place in range(4):
            self.comes_to(place + 1, four + [("field", place), BACK])
        self.comes_to(5, [number(5), ("block", 3, 1), ("field", 0), BACK])
        self.comes_to(9, [number(9), ("block", 2, 0), KEEP, BACK])
        # Only the top ones go.
        self.comes_to(13, [number(10), number(1), number(3), ("block", 0, 2), ("field", 1), ("plus",), BACK])

    def test_cases(self):
        arms = lambda here: ("case", (here, here + 2, here + 4))
        ends = [number(10), BACK, number(20), BACK, number(30), BACK]
        for block, wanted in ((0, 10), (1, 20), (2, 30)):
            self.comes_to(wanted, [("block", block, 0), arms(2)] + ends)

    def test_a_case_s_values_become_the_last_locals(self):
        for count in range(5):
            values = [number(n + 1) for n in range(count)]
            code = [number(9), KEEP] + values + [("block", 1, count), ("case", (0, 4 + count))] + weighed(range(count + 1)) + [BACK]
            self.comes_to(int("9" + "1234"[:count]), code)
            code = code[:-1] + [("drop", count), number(5), KEEP, local(1), ("plus",), BACK]
            self.comes_to(int("9" + "1234"[:count]) + 5, code)

    def test_the_block_of_a_case_goes(self):
        self.comes_to(4, [number(4), ("block", 0, 0), ("case", (3,)), BACK])

    def test_blocks_of_blocks_and_functions(self):
        code = rows_with(
            lambda to: [number(1), ("close", to[0], ()), ("block", 0, 2), number(8), ("block", 1, 2), ("field", 0), ("field", 1), number(4), CALL],
            [local(0), number(2), ("times",)],
        )
        self.comes_to(8, code)


class Stuck(Case):

    # A value of each sort, by the rows that lay it; the function is never called.
    VALUES = {"number": [number(5)], "block": [("block", 0, 0)], "function": [("close", 0, ())]}

    def others(self, sort):
        return [rows for name, rows in self.VALUES.items() if name != sort]

    def stuck(self, code):
        self.refused("Stuck", done, tuple(code))

    def test_sums_of_no_number(self):
        for word in ("plus", "minus", "times", "less"):
            for rows in self.others("number"):
                self.stuck([number(1)] + rows + [(word,), BACK])
                self.stuck(rows + [number(1), (word,), BACK])
                self.stuck(rows + rows + [(word,), BACK])

    def test_unless_of_no_number(self):
        for rows in self.others("number"):
            self.stuck(rows + [("unless", 3), number(1), BACK])

    def test_calls_of_no_function(self):
        for rows in self.others("function"):
            self.stuck(rows + [number(1), CALL, BACK])
            self.stuck(rows + [("close", 0, ()), CALL, BACK])

    def test_fields_of_no_block(self):
        for rows in self.others("block"):
            self.stuck(rows + [("field", 0), BACK])

    def test_cases_of_no_block(self):
        for rows in self.others("block"):
            self.stuck(rows + [("case", (2, 2)), number(1), BACK])

    def test_cases_of_a_block_outside_of_its_rows(self):
        for count in range(4):
            row = ("case", (2,) * count)
            for block in (-2, -1, 0, 1, 2, 3, 4, 10 ** 20):
                wanted = 7 if 0 <= block < count else "Stuck"
                self.assertEqual(told([("block", block, 0), row, number(7), BACK]), wanted)

    def test_a_last_value_that_is_no_number(self):
        for rows in self.others("number"):
            self.stuck(rows + [BACK])

    def test_refused_at_its_row_and_not_ahead_of_it(self):
        self.assertEqual(told([number(1), ("block", 0, 0), ("jump", 4), ("plus",), KEEP, BACK]), 1)


class Great(Case):

    def test_sixty_figures_and_one_more(self):
        for one, word, other, wanted in (
            (SIXTY, "plus", 0, SIXTY), (SIXTY, "plus", 1, "TooGreat"), (SIXTY - 1, "plus", 1, SIXTY),
            (SIXTY, "minus", -1, "TooGreat"), (SIXTY, "minus", 1, SIXTY - 1),
            (-SIXTY, "minus", 0, -SIXTY), (-SIXTY, "minus", 1, "TooGreat"), (-SIXTY, "plus", -1, "TooGreat"),
            (10 ** 30, "times", 10 ** 29, 10 ** 59), (10 ** 30, "times", 10 ** 30, "TooGreat"),
            (-10 ** 30, "times", 10 ** 30, "TooGreat"), (10 ** 30, "times", -10 ** 29, -10 ** 59), (SIXTY, "less", -SIXTY, 0),
        ):
            self.assertEqual(told([number(one), number(other), (word,), BACK]), wanted)

    def test_as_soon_as_it_comes_to_it(self):
        self.refused("TooGreat", done, (number(SIXTY), number(1), ("plus",), number(1), ("minus",), BACK))


def calls_in_turn(count):
    rows = lambda to: [("close", to[0], ()), KEEP, number(7)] + [local(0), number(5), CALL, KEEP, ("drop", 1)] * count
    return rows_with(rows, [local(0)])


def calls_within(count, times=1):
    """Calls a function so many times that calls itself, so many under way at once; they come to 7 each."""
    rows = [number(0)]
    for turn in range(times):
        rows += [local(0), number(count - 1), CALL, ("plus",)]
    here = len(rows) + 2
    body = [local(1), ("unless", here + 8), local(0), local(1), number(1), ("minus",), CALL, BACK, number(7)]
    return [("ring", ((here, (0,)),))] + rows + [BACK] + body + [BACK]


class Calls(Case):

    def test_just_most_calls_and_one_more(self):
        for count in (0, 1, 2, 7):
            self.assertEqual(told(calls_in_turn(count), count), 7)
            self.assertEqual(told(calls_in_turn(count + 1), count), "TooLong")
        self.assertEqual(done(tuple(calls_in_turn(300))), 7)
        self.refused("TooLong", done, tuple(calls_in_turn(301)))
        self.assertEqual(done(tuple(calls_in_turn(400)), most=400), 7)
        self.refused("TooLong", done, tuple(calls_in_turn(401)), 400)

    def test_a_most_of_0_and_below(self):
        for most in (0, -1, -99):
            self.assertEqual(told([number(1), BACK], most), 1)
            self.assertEqual(told(calls_in_turn(1), most), "TooLong")

    def test_ten_calls_under_way_and_eleven(self):
        for count in range(1, 11):
            self.assertEqual(told(calls_within(count)), 7)
            self.assertEqual(told(calls_within(count), count), 7)
            self.assertEqual(told(calls_within(count), count - 1), "TooLong")
        self.assertEqual(told(calls_within(11)), "TooDeep")
        self.refused("TooDeep", done, tuple(calls_within(30)))

    def test_both_due_at_one_call(self):
        self.assertEqual(told(calls_within(11), 11), "TooDeep")
        self.assertEqual(told(calls_within(11), 10), "TooLong")

    def test_calls_that_have_come_back_are_under_way_no_more(self):
        self.assertEqual(told(calls_within(10, 3)), 21)
        self.assertEqual(told(calls_within(10, 3), 30), 21)
        self.assertEqual(told(calls_within(10, 3), 29), "TooLong")

    def test_a_call_of_no_function_is_stuck_ahead_of_both(self):
        self.assertEqual(told([number(1), number(1), CALL, BACK], 0), "Stuck")


class Steady(Case):

    def test_the_code_stays_and_is_done_alike_again(self):
        codes = [tuple(calls_within(3)), tuple(calls_within(11)), (number(1), ("block", 0, 0), ("plus",), BACK), tuple(calls_in_turn(2))]
        kept = copy.deepcopy(codes)
        wanted = [told(code, 3) for code in codes]
        self.assertEqual(wanted, [7, "TooLong", "Stuck", 7])
        for turn in range(2):
            for one in range(4):
                for other in range(4):
                    self.assertEqual((told(codes[one], 3), told(codes[other], 3)), (wanted[one], wanted[other]))
        self.assertEqual(codes, kept)


if __name__ == "__main__":
    unittest.main()
