import copy
import random
import unittest

from facework.errors import NoText
from facework.reading import is_kind, is_phrase, read
from facework.things import things_of

RIGHT = (
    "(main 5)",
    "(kind list (?a) (Nil) (Cons ?a (list ?a))) (main (case (Cons 1 Nil) ((Nil) 0) ((Cons x y) x)))",
    "(face F () (hide t 0) (val v t)) (part P F (hide t () num) (val v 3)) (main (let x P.v 4))",
)
WRONG = ("", "(main", "main)", "(main -0)", "(main 5) (main 5)", "(" * 21 + ")" * 21, " " * 6001, "((((", "(fun x", ")")


def refused(call, text):
    try:
        call(text)
    except NoText:
        return True
    return False


class Steady(unittest.TestCase):

    def test_a_right_text_reads_the_same_ahead_of_a_refused_one_and_behind_it(self):
        for text in RIGHT:
            ahead = read(text)
            things = things_of(text)
            for wrong in WRONG:
                self.assertTrue(refused(read, wrong))
                self.assertEqual(read(text), ahead)
                self.assertEqual(things_of(text), things)

    def test_a_refused_text_is_refused_again(self):
        for wrong in WRONG:
            self.assertTrue(refused(read, wrong))
            read(RIGHT[0])
            self.assertTrue(refused(read, wrong))

    def test_what_was_told_stays_as_it_was(self):
        told = [read(text) for text in RIGHT]
        kept = copy.deepcopy(told)
        for text in RIGHT + WRONG:
            refused(read, text)
            refused(things_of, text)
        self.assertEqual(told, kept)

    def test_what_is_handed_in_is_not_changed(self):
        phrase = things_of("(let x (ring ((f y (plus y 1))) (call f 2)) (case T ((T) x) ((U a) a)))")[0]
        kind = things_of("(-> (list ?a) (-> num A.t))")[0]
        phrase_ahead = copy.deepcopy(phrase)
        kind_ahead = copy.deepcopy(kind)
        for turn in range(3):
            self.assertIs(is_phrase(phrase), True)
            self.assertIs(is_kind(kind), True)
            self.assertIs(is_phrase(kind), False)
            self.assertIs(is_kind(phrase), False)
        self.assertEqual(phrase, phrase_ahead)
        self.assertEqual(kind, kind_ahead)

    def test_the_order_of_asking_counts_for_nothing(self):
        texts = list(RIGHT + WRONG)
        wanted = {text: None if refused(read, text) else read(text) for text in texts}
        order = random.Random(7)
        for turn in range(20):
            order.shuffle(texts)
            for text in texts:
                self.assertEqual(None if refused(read, text) else read(text), wanted[text])


if __name__ == "__main__":
    unittest.main()
