import copy
import random
import unittest

from facework.errors import FaceError, NoText
from facework.kinds import instance, put, variables
from facework.reading import is_kind, is_phrase, read
from facework.scopes import look_over
from facework.showing import shown, shown_program
from facework.sorts import Sorts
from facework.things import things_of

RIGHT = (
    "(main 5)",
    "(kind list (?a) (Nil) (Cons ?a (list ?a))) (main (case (Cons 1 Nil) ((Nil) 0) ((Cons x y) x)))",
    "(face F () (hide t 0) (val v t)) (part P F (hide t () num) (val v 3)) (main (let x P.v 4))",
)
# Read, but refused when they are looked over.
FAULTY = (
    "(kind list (?a) (Nil) (Nil)) (main 0)",
    "(face F ((X F))) (main 0)",
    "(kind list (?a) (Nil)) (main (case Nil ((Nil x) x)))",
    "(main (fun x y))",
)
WRONG = ("", "(main", "main)", "(main -0)", "(main 5) (main 5)", "(" * 21 + ")" * 21, " " * 6001, "((((", "(fun x", ")")


def refused(call, text):
    try:
        call(text)
    except NoText:
        return True
    return False


def told_of(text):
    """What looking over tells of a program: the name of the refusal, or None."""
    try:
        return look_over(read(text))
    except FaceError as refusal:
        return type(refusal).__name__


class Steady(unittest.TestCase):

    def test_a_right_text_reads_the_same_ahead_of_a_refused_one_and_behind_it(self):
        for text in RIGHT:
            ahead = read(text)
            things = things_of(text)
            for wrong in WRONG:
                self.assertTrue(refused(read, wrong))
                self.assertEqual(read(text), ahead)
                self.assertEqual(things_of(text), things)

    def test_a_refused_text_is_refused_again(self):
        for wrong in WRONG:
            self.assertTrue(refused(read, wrong))
            read(RIGHT[0])
            self.assertTrue(refused(read, wrong))

    def test_what_was_told_stays_as_it_was(self):
        told = [read(text) for text in RIGHT]
        kept = copy.deepcopy(told)
        for text in RIGHT + WRONG:
            refused(read, text)
            refused(things_of, text)
        self.assertEqual(told, kept)

    def test_what_is_handed_in_is_not_changed(self):
        phrase = things_of("(let x (ring ((f y (plus y 1))) (call f 2)) (case T ((T) x) ((U a) a)))")[0]
        kind = things_of("(-> (list ?a) (-> num A.t))")[0]
        phrase_ahead = copy.deepcopy(phrase)
        kind_ahead = copy.deepcopy(kind)
        for turn in range(3):
            self.assertIs(is_phrase(phrase), True)
            self.assertIs(is_kind(kind), True)
            self.assertIs(is_phrase(kind), False)
            self.assertIs(is_kind(phrase), False)
        self.assertEqual(phrase, phrase_ahead)
        self.assertEqual(kind, kind_ahead)

    def test_looking_over_hangs_on_nothing_asked_earlier(self):
        wanted = {text: told_of(text) for text in RIGHT + FAULTY}
        self.assertEqual([wanted[text] for text in RIGHT], [None] * len(RIGHT))
        self.assertEqual([wanted[text] for text in FAULTY], ["Twice", "NoName", "NoCount", "NoName"])
        for one in wanted:
            for other in wanted:
                self.assertEqual(told_of(one), wanted[one])
                self.assertEqual(told_of(other), wanted[other])

    def test_programs_that_are_looked_at_stay(self):
        for text in RIGHT + FAULTY:
            program = read(text)
            told_of(text)
            Sorts(program)
            shown_program(program)
            shown(program)
            self.assertEqual(program, read(text))

    def test_schemes_stay_when_others_are_refused(self):
        sorts = Sorts(read(RIGHT[1]))
        ahead = (sorts.tag("Cons"), sorts.kind_of("Nil"), sorts.tags("list"))
        for text in FAULTY:
            told_of(text)
            self.assertEqual((sorts.tag("Cons"), sorts.kind_of("Nil"), sorts.tags("list")), ahead)

    def test_kinds_and_dicts_that_are_handed_in_stay(self):
        kind = things_of("(-> ?a (-> (list ?b) num))")[0]
        by = {"?a": "?b", "?b": kind}
        by_ahead = dict(by)
        told = [variables(kind), put(kind, by), instance(kind, put(kind, by)), instance(kind, "num")]
        kept = copy.deepcopy(told)
        by["?a"] = "num"
        put(kind, by)
        by["?a"] = "?b"
        self.assertEqual([variables(kind), put(kind, by), instance(kind, put(kind, by)), instance(kind, "num")], kept)
        self.assertEqual(told, kept)
        self.assertEqual(by, by_ahead)

    def test_the_order_of_asking_counts_for_nothing(self):
        texts = list(RIGHT + WRONG)
        wanted = {text: None if refused(read, text) else read(text) for text in texts}
        order = random.Random(7)
        for turn in range(20):
            order.shuffle(texts)
            for text in texts:
                self.assertEqual(None if refused(read, text) else read(text), wanted[text])


if __name__ == "__main__":
    unittest.main()
