import unittest

from facework.reading import is_kind
from facework.things import things_of
from helping import KEPT, Case, thing_with


def thing(text):
    things = things_of(text)
    assert len(things) == 1
    return things[0]


class Kinds(Case):

    def right(self, *texts):
        for text in texts:
            with self.subTest(text):
                self.assertIs(is_kind(thing(text)), True)

    def wrong(self, *texts):
        for text in texts:
            with self.subTest(text):
                self.assertIs(is_kind(thing(text)), False)

    def test_kinds_of_one_word(self):
        self.right("num", "?a", "?abcdefgh", "?num", "t", "abcdefgh", "Ones.t", "Abcdefgh.abcdefgh")
        self.only_sorts(("small", "path", "variable", "kept num"), lambda new: new, is_kind)

    def test_kept_names_are_no_kinds(self):
        for name in KEPT:
            self.assertIs(is_kind(name), name == "num")
            self.assertIs(is_kind((name, "num")), False)
            self.assertIs(is_kind(("list", name)), name == "num")

    def test_functions(self):
        self.right("(-> num num)", "(-> (-> ?a ?b) (-> (list ?a) (A.list ?b)))")
        self.wrong("(->)", "(-> num)", "(-> num num num)", "->", "(num -> num)", "((-> num num))", "(-> -> num)")
        inner = ("small", "path", "variable", "kept num")
        self.only_sorts(inner, lambda new: ("->", new, "num"), is_kind)
        self.only_sorts(inner, lambda new: ("->", "num", new), is_kind)

    def test_named_kinds(self):
        self.right("(list num)", "(map ?a ?b)", "(trio num ?b A.t)", "(A.t num)", "(A.t num num)", "(A.t num num num)")
        self.wrong("(list)", "(A.t)", "(list num num num num)", "(A.t num num num num)", "()", "((list) num)")
        for head in ("list", "A.t"):
            for count in range(0, 7):
                self.assertIs(is_kind((head,) + ("?a",) * count), 1 <= count <= 3)
        self.only_sorts(("small", "path"), lambda new: (new, "num"), is_kind)
        self.only_sorts(("small", "path", "arrow"), lambda new: (new, "num", "num"), is_kind)
        self.only_sorts(("small", "path"), lambda new: (new, "num", "num", "num"), is_kind)
        inner = ("small", "path", "variable", "kept num")
        for place in (1, 2, 3):
            whole = ("n", "num", "num", "num")
            self.only_sorts(inner, lambda new: thing_with(whole, (place,), new), is_kind)

    def test_words_that_are_too_long(self):
        for word in ("abcdefghi", "?abcdefghi", "?", "A.abcdefghi", "A.num", "A.", ""):
            self.assertIs(is_kind(word), False)
            self.assertIs(is_kind(("->", word, "num")), False)

    def test_a_wrong_thing_deep_within(self):
        whole = thing("(-> (list (-> num (map ?a (A.t (-> ?b t))))) (-> num (trio num num (list ?c))))")
        self.assertIs(is_kind(whole), True)
        deep = [(1, 1, 2, 2, 1, 2), (1, 1, 2, 2, 1, 1), (1, 1, 1), (2, 2, 3, 1), (2, 2, 1), (2, 1)]
        for path in deep:
            self.only_sorts(("small", "path", "variable", "kept num"), lambda new: thing_with(whole, path, new), is_kind)
        for path in ((1, 0), (1, 1, 2, 0), (1, 1, 2, 2, 0), (2, 2, 0)):
            self.assertIs(is_kind(thing_with(whole, path, "Great")), False)
            self.assertIs(is_kind(thing_with(whole, path, ("list",))), False)

    def test_deep_kinds(self):
        for depth in (21, 60, 100, 5000):
            left = right = "num"
            for level in range(depth):
                left = ("->", left, "num")
                right = ("->", "num", right)
            self.assertIs(is_kind(left), True)
            self.assertIs(is_kind(right), True)
            self.assertIs(is_kind(("->", left, 5)), False)

    def test_what_is_no_thing_is_no_kind(self):
        for other in (True, False, None, ["->", "num", "num"], ("->", True, "num"), ("n", ["num"])):
            self.assertIs(is_kind(other), False)

    def test_phrases_are_no_kinds(self):
        self.wrong("5", "(fun x x)", "(plus 1 2)", "Tag", "(Tag 1)", "(if 1 2 3)")

if __name__ == "__main__":
    unittest.main()
