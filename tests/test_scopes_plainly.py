import random
import unittest

from facework.errors import FaceError
from facework.reading import read
from facework.scopes import look_over
from changing import changed_program, is_formed
from plain_scopes import plain_look_over

RICH = (
    "(kind list (?a) (Nil) (Cons ?a (list ?a)))"
    "(record pair (?a ?b) (one ?a) (two ?b))"
    "(face Count () (hide t 0) (hide u 1) (val zero t) (val up (-> t (u ?a))))"
    "(part Ones Count (hide t () num) (hide u (?a) (-> ?a num)) (val zero 0) (val up (fun x (fun y (plus x zero)))))"
    "(face Over ((X Count)) (hide s 0) (val get (-> X.t (-> s (X.u num)))))"
    "(maker Make ((X Count)) (Over X) (hide s () (pair X.t num)) (val get (fun x (fun y (call X.up x)))))"
    "(apply Two Make Ones)"
    "(face Both ((X Count) (Y (Over X))) (val go (-> X.t Y.s)))"
    "(maker More ((X Count) (Y (Over X))) (Both X Y) (val aid Y.get) (val go (call aid X.zero)))"
    "(apply Last More Ones Two)"
    "(kind mix (?a ?b) (Mix Ones.t (pair ?a ?b)) (No (Ones.u (list num)) Two.s))"
    "(main (ring ((f x (let y (call g x) (plus y x))) (g y (if y (call f (minus y 1)) 0)))"
    " (case (Cons 1 (Cons 2 Nil)) ((Nil) (pick one (make pair 1 Last.go)))"
    " ((Cons h t) (case (Mix Ones.zero (make pair h t)) ((Mix a b) (call g h)) ((No a b) (less h (times 2 h))))))))"
)


def told_of(program):
    try:
        return look_over(program)
    except FaceError as refusal:
        return type(refusal).__name__


class Plainly(unittest.TestCase):

    def test_the_rich_program_is_let_by(self):
        self.assertIsNone(told_of(read(RICH)))
        self.assertIsNone(plain_look_over(read(RICH)))

    def test_some_changed_programs(self):
        choice = random.Random(41)
        counts = {}
        while sum(counts.values()) < 300:
            program = read(RICH)
            for turn in range(choice.choice((1, 1, 2, 3))):
                made = changed_program(choice, program)
                program = made if is_formed(made) else program
            if program != read(RICH):
                wanted = plain_look_over(program)
                self.assertEqual(told_of(program), wanted, program)
                counts[wanted] = counts.get(wanted, 0) + 1
        for name in (None, "Twice", "NoName", "NoCount"):
            self.assertGreater(counts.get(name, 0), 10, counts)


if __name__ == "__main__":
    unittest.main()
