import unittest

from facework.reading import read
from facework.showing import shown, shown_program
from facework.things import things_of
from helping import KEPT, SORTS, Case, text_of

GREATEST = 10 ** 30 - 1

# Each sort of declaration, with none and with all of what it may have.
DECLARATIONS = (
    "(kind k () (T))",
    "(kind k (?a ?b ?c) (T) (U ?a (-> ?b num) (list ?c) A.t) (V) (W) (X) (Y (A.t ?a num)))",
    "(record r () (x num))",
    "(record r (?a ?b ?c) (x ?a) (y (list num)) (z (-> num num)) (w A.t))",
    "(face F ())",
    "(face F ((X G) (Y (H X A))) (hide t 0) (hide u 1) (hide w 2) (val v (-> t (u X.t))))",
    "(part P F)",
    "(part P (F Q R) (hide t () num) (hide u (?a ?b) (-> ?a ?b)) (val v 5) (val w (fun x (plus x v))))",
    "(maker M ((X F)) G)",
    "(maker M ((X F) (Y (G X))) (H X Y) (hide t (?a) X.t) (val v X.v))",
    "(apply P M Q)",
    "(apply P M Q R)",
)
PHRASES = (
    "0", "-1", "x", "A.x", "T", "(T 1)", "(T 1 x A.x U)", "(fun x x)", "(call f 1)", "(let x 1 x)",
    "(ring ((f x x)) f)", "(ring ((f x 1) (g y 2) (h z 3) (i w 4)) 5)", "(case T ((T) 1))",
    "(case x ((T) 1) ((U a b c d) a) ((V a) 1) ((W) 2) ((X) 3) ((Y) 4))", "(make r 1)", "(make r 1 2 3 4)",
    "(pick x y)", "(plus 1 2)", "(minus -1 -2)", "(times 1 2)", "(less 1 2)", "(if 0 1 2)",
)


class Things(Case):

    def back(self, thing):
        text = shown(thing)
        self.assertIs(type(text), str)
        self.assertEqual(things_of(text), (thing,))

    def test_numbers(self):
        for number in (0, 1, -1, 9, 10, -10, 1000000, GREATEST, -GREATEST, 10 ** 29, -10 ** 29):
            self.back(number)
            self.back((number, number, (number,)))

    def test_each_sort_of_word(self):
        for thing in SORTS.values():
            self.back(thing)
        for word in KEPT + ["a", "abcdefgh", "A", "Abcdefgh", "A.a", "Abcdefgh.abcdefgh", "?a", "?abcdefgh", "->"]:
            self.back(word)
            self.back((word,))

    def test_things_beside_one_another(self):
        for one in SORTS.values():
            for other in SORTS.values():
                for thing in ((one, other), ((one,), other), (one, (other,)), ((one,), (other,)), (one, (), other)):
                    self.back(thing)

    def test_brackets_with_nothing_between_them(self):
        for thing in ((), ((),), ((), ()), ((), ((), ()), ()), (((),),), ("a", (), 1, ())):
            self.back(thing)

    def test_twenty_brackets_within_one_another(self):
        empty = ()
        full = ("x", 1)
        for level in range(19):
            self.back(empty)
            self.back(full)
            empty = (empty,)
            full = ("a", full, 2)
        self.back(empty)
        self.back(full)

    def test_more_brackets_than_are_read(self):
        thing = "x"
        for level in range(150):
            thing = ("fun", "x", thing)
        self.assertEqual(shown(thing), "(fun x " * 150 + "x" + ")" * 150)
        self.assertEqual(shown(10 ** 60 - 1), "9" * 60)

    def test_kinds_as_they_are_written(self):
        for text in ("num", "?a", "(-> num (list ?a))", "(A.t (-> ?a ?b) num)", "A.t"):
            self.assertEqual(shown(things_of(text)[0]), text)

    def test_phrases(self):
        for text in PHRASES:
            self.back(things_of(text)[0])

    def test_a_thing_of_as_many_signs_as_a_text_may_have(self):
        thing = ("a",) + ("b",) * 1999
        self.back(thing + ((),) * 999)
        self.back(things_of("(" + "(a)1" * 1499 + ")")[0])


class Programs(Case):

    def back(self, program):
        text = shown_program(program)
        self.assertIs(type(text), str)
        self.assertEqual(read(text), program)

    def test_each_sort_of_declaration(self):
        for text in DECLARATIONS:
            self.back(read(text + "(main 5)"))
        self.back(read("".join(DECLARATIONS) + "(main 5)"))

    def test_each_form_of_a_main(self):
        for text in PHRASES:
            self.back(read("(main " + text + ")"))

    def test_numbers_of_thirty_figures(self):
        self.back((("main", ("plus", GREATEST, -GREATEST)),))

    def test_twenty_brackets(self):
        phrase = 5
        for level in range(19):
            phrase = ("plus", phrase, phrase) if level < 3 else ("fun", "x", phrase)
        self.back((("main", phrase),))

    def test_as_many_signs_as_are_read_without_needless_blanks(self):
        # With a blank beside each bracket the text would have more signs than are read.
        row = "(val v{}(fun x(plus(plus 1 2)(plus(plus(plus 1 2)(plus 3 x))(plus(plus 5 6)(plus 7 x))))))"
        body = "".join(row.replace("{}", letter) for letter in "abcdefghijklmnopqrstuv")
        text = "(face F())" + "".join("(part P" + letter + " F" + body + ")" for letter in "abc")
        for letter in "abcdefghijklm":
            if len(text) < 5970:
                text += "(face G" + letter + "())"
        text += "(main " + "1" * (5993 - len(text)) + ")"
        self.assertEqual(len(text), 6000)
        self.assertGreater(len(" ".join(text_of(declaration) for declaration in read(text))), 6000)
        self.back(read(text))

    def test_what_is_handed_in_stays(self):
        program = read("".join(DECLARATIONS) + "(main 5)")
        again = read("".join(DECLARATIONS) + "(main 5)")
        one = shown_program(program)
        self.assertEqual(program, again)
        self.assertEqual(shown_program(program), one)


if __name__ == "__main__":
    unittest.main()
