import unittest

from facework.reading import is_phrase
from facework.things import things_of
from helping import KEPT, Case, thing_with

# The sorts of a single thing that are phrases by themselves.
ALONE = ("small", "great", "path", "number")
NAME = ("small",)
TAG = ("great",)


def thing(text):
    things = things_of(text)
    assert len(things) == 1
    return things[0]


class Phrases(Case):

    def right(self, *texts):
        for text in texts:
            with self.subTest(text):
                self.assertIs(is_phrase(thing(text)), True)

    def wrong(self, *texts):
        for text in texts:
            with self.subTest(text):
                self.assertIs(is_phrase(thing(text)), False)

    def place(self, text, path, allowed):
        """In the right phrase, just the allowed sorts may stand at the path."""
        whole = thing(text)
        self.assertIs(is_phrase(whole), True, text)
        self.only_sorts(allowed, lambda new: thing_with(whole, path, new), is_phrase)

    def test_phrases_of_one_thing(self):
        self.right("0", "5", "-5", "9" * 30, "x", "abcdefgh", "A.x", "T", "Abcdefgh")
        self.only_sorts(ALONE, lambda new: new, is_phrase)

    def test_kept_names_are_no_phrases(self):
        for name in KEPT:
            self.assertIs(is_phrase(name), False)
            self.assertIs(is_phrase((name,)), False)
            self.assertIs(is_phrase(("plus", 1, name)), False)
            self.assertIs(is_phrase(("fun", name, 1)), False)

    def test_words_and_numbers_beyond_their_bounds(self):
        for other in ("abcdefghi", "Abcdefghi", "A.abcdefghi", "A.num", "AB", "", "5"):
            self.assertIs(is_phrase(other), False)
        self.assertIs(is_phrase(10 ** 30 - 1), True)
        self.assertIs(is_phrase(1 - 10 ** 30), True)
        self.assertIs(is_phrase(10 ** 30), False)
        self.assertIs(is_phrase(-10 ** 30), False)

    def test_tags(self):
        self.right("T", "(T 1)", "(T 1 2)", "(T 1 2 3)", "(T 1 2 3 4)", "(T (T T))")
        self.wrong("(T)", "(T 1 2 3 4 5)", "((T 1))", "((T) 1)")
        self.place("(T 1)", (0,), TAG)
        self.place("(T 1 2 3 4)", (0,), TAG)
        for place in (1, 2, 3, 4):
            self.place("(T 1 2 3 4)", (place,), ALONE)

    def test_a_tag_begins_with_a_great_letter(self):
        for letter in "abcdefghijklmnopqrstuvwxyz":
            self.assertIs(is_phrase((letter.upper(), 1)), True)
            self.assertIs(is_phrase((letter.upper() + letter, 1)), True)
            self.assertIs(is_phrase((letter, 1)), False)
            self.assertIs(is_phrase((letter + letter, 1)), False)
            self.assertIs(is_phrase((letter.upper() * 2, 1)), False)

    def test_what_stands_first(self):
        # With two things behind it, the heads of calls and of the works on numbers fit too.
        for head in ("x", "A.x", "?a", "->", 5, (), "num", "kind", "record", "face", "hide", "val", "part", "maker",
                     "apply", "main", ("T",), ("fun", "x", 1)):
            for count in range(0, 6):
                self.assertIs(is_phrase((head,) + (1,) * count), False)
                self.assertIs(is_phrase((head, "x") + (1,) * count), False)
        self.wrong("()")

    def test_fun(self):
        self.right("(fun x 1)", "(fun x (fun x x))")
        self.wrong("(fun)", "(fun x)", "(fun x 1 1)", "(fun (x) 1)", "(fun x y 1)")
        self.place("(fun x 1)", (1,), NAME)
        self.place("(fun x 1)", (2,), ALONE)

    def test_call(self):
        self.right("(call f 1)", "(call (fun x x) (call f g))")
        self.wrong("(call)", "(call f)", "(call f 1 2)")
        self.place("(call f 1)", (1,), ALONE)
        self.place("(call f 1)", (2,), ALONE)

    def test_let(self):
        self.right("(let x 1 x)")
        self.wrong("(let)", "(let x)", "(let x 1)", "(let x 1 2 3)", "(let (x 1) x)", "(let (x) 1 x)")
        self.place("(let x 1 2)", (1,), NAME)
        self.place("(let x 1 2)", (2,), ALONE)
        self.place("(let x 1 2)", (3,), ALONE)

    def test_ring(self):
        one = "(f x 1)"
        for count in range(0, 7):
            made = "(ring (" + one * count + ") 5)"
            self.assertIs(is_phrase(thing(made)), 1 <= count <= 4)
        self.wrong("(ring)", "(ring ((f x 1)))", "(ring ((f x 1)) 5 5)", "(ring (f x 1) 5)", "(ring (f x 1))")
        self.wrong("(ring ((f x)) 5)", "(ring ((f x 1 1)) 5)", "(ring ((f)) 5)", "(ring (()) 5)", "(ring 5 5)", "(ring f 5)")
        self.wrong("(ring ((f x 1) (g x)) 5)", "(ring ((f x 1) g) 5)", "(ring ((f (x) 1)) 5)", "(ring (((f) x 1)) 5)")
        whole = "(ring ((f x 1) (g y 2) (h z 3) (k w 4)) 5)"
        for function in range(4):
            self.place(whole, (1, function, 0), NAME)
            self.place(whole, (1, function, 1), NAME)
            self.place(whole, (1, function, 2), ALONE)
            self.place(whole, (1, function), ())
        self.place(whole, (1,), ())
        self.place(whole, (2,), ALONE)

    def test_case(self):
        for count in range(0, 9):
            self.assertIs(is_phrase(thing("(case x " + "((T) 1)" * count + ")")), 1 <= count <= 6)
        for count in range(0, 7):
            self.assertIs(is_phrase(thing("(case x ((T" + " y" * count + ") 1))")), count <= 4)
        self.wrong("(case)", "(case x)", "(case x (T 1))", "(case x ((T)))", "(case x ((T) 1 1))", "(case ((T) 1))")
        self.wrong("(case x (() 1))", "(case x ())", "(case x T)", "(case x 1)", "(case x (((T)) 1))", "(case x ((T) 1) 5)")
        self.wrong("(case x (((T) 1)))", "(case x ((T (y)) 1))", "(case x ((T 1) 1))", "(case x ((T y) 1) ((T y)))")
        whole = "(case x ((T) 1) ((U a b c d) 2) ((V e) 3))"
        self.place(whole, (1,), ALONE)
        for arm in (2, 3, 4):
            self.place(whole, (arm,), ())
            self.place(whole, (arm, 0), ())
            self.place(whole, (arm, 0, 0), TAG)
            self.place(whole, (arm, 1), ALONE)
        for name in (1, 2, 3, 4):
            self.place(whole, (3, 0, name), NAME)
        self.place(whole, (4, 0, 1), NAME)

    def test_make(self):
        for count in range(0, 7):
            self.assertIs(is_phrase(thing("(make r" + " 1" * count + ")")), 1 <= count <= 4)
        self.wrong("(make)", "(make (r 1))", "(make (r) 1)")
        whole = "(make r 1 2 3 4)"
        self.place("(make r 1)", (1,), NAME)
        self.place(whole, (1,), NAME)
        for place in (2, 3, 4, 5):
            self.place(whole, (place,), ALONE)

    def test_pick(self):
        self.right("(pick x 1)", "(pick x (make r 1))")
        self.wrong("(pick)", "(pick x)", "(pick x 1 2)", "(pick (x) 1)")
        self.place("(pick x 1)", (1,), NAME)
        self.place("(pick x 1)", (2,), ALONE)

    def test_works_on_numbers(self):
        for head in ("plus", "minus", "times", "less"):
            for count in range(0, 5):
                self.assertIs(is_phrase((head,) + (1,) * count), count == 2)
            self.place("(" + head + " 1 2)", (1,), ALONE)
            self.place("(" + head + " 1 2)", (2,), ALONE)

    def test_if(self):
        for count in range(0, 6):
            self.assertIs(is_phrase(("if",) + (1,) * count), count == 3)
        for place in (1, 2, 3):
            self.place("(if 1 2 3)", (place,), ALONE)

    def test_a_wrong_thing_deep_within(self):
        whole = thing(
            "(let x (case (call f 1) ((T y) (ring ((g z (make r (if z (pick w y) (U 1 2)))))"
            " (call g (fun v (plus v 1))))) ((V) 2)) (less x (times 2 (minus A.x 3))))"
        )
        self.assertIs(is_phrase(whole), True)
        ring = (2, 2, 1)
        inner = (
            (2, 1, 1), (2, 1, 2), (2, 3, 1), (3, 2, 2, 1), (3, 2, 2, 2),
            ring + (1, 0, 2, 2), ring + (1, 0, 2, 2, 1), ring + (1, 0, 2, 2, 2, 2), ring + (1, 0, 2, 2, 3, 2),
            ring + (2, 2), ring + (2, 2, 2, 1), ring + (2, 2, 2, 2),
        )
        for path in inner:
            self.only_sorts(ALONE, lambda new: thing_with(whole, path, new), is_phrase)
        names = (
            (1,), (2, 2, 0, 1), ring + (1, 0, 0), ring + (1, 0, 1), ring + (1, 0, 2, 1), ring + (1, 0, 2, 2, 2, 1),
            ring + (2, 2, 1),
        )
        for path in names:
            self.only_sorts(NAME, lambda new: thing_with(whole, path, new), is_phrase)
        for path in ((2, 2, 0, 0), (2, 3, 0, 0), ring + (1, 0, 2, 2, 3, 0)):
            self.only_sorts(TAG, lambda new: thing_with(whole, path, new), is_phrase)

    def test_deep_phrases(self):
        for depth in (21, 60, 100, 5000):
            funs = plusses = tags = 1
            for level in range(depth):
                funs = ("fun", "x", funs)
                plusses = ("plus", plusses, 1)
                tags = ("T", 1, tags)
            for phrase in (funs, plusses, tags):
                self.assertIs(is_phrase(phrase), True)
                self.assertIs(is_phrase(("call", phrase, "?a")), False)
                self.assertIs(is_phrase(("call", "?a", phrase)), False)

    def test_what_is_no_thing_is_no_phrase(self):
        for other in (True, False, None, ["plus", 1, 2], ("plus", 1, True), ("plus", 1, [2]), (["plus"], 1, 2)):
            self.assertIs(is_phrase(other), False)
        self.assertIs(is_phrase(("ring", [("f", "x", 1)], 5)), False)
        self.assertIs(is_phrase(("case", "x", [("T",), 1])), False)

    def test_kinds_and_declarations_are_no_phrases(self):
        self.wrong("num", "?a", "(-> num num)", "(list num)", "(main 5)", "(val x 5)", "(apply P M Q)")


if __name__ == "__main__":
    unittest.main()
