import unittest

from facework.reading import read
from facework.sorts import Sorts
from helping import Case

PROGRAM = read(
    "(kind bit () (Off) (On))"
    "(kind list (?a) (Nil) (Cons ?a (list ?a)))"
    "(kind tree (?a ?b ?c) (Leaf) (Node ?a (-> ?b ?c) (tree ?a ?b ?c) num) (Last ?c))"
    "(record one () (only num))"
    "(record four (?b ?a) (fa ?a) (fb (-> ?b ?a)) (fc (four ?a ?b)) (fd bit))"
    "(face Count () (hide t 0) (val zero t))"
    "(part Ones Count (hide t () num) (val zero 0))"
    "(kind over () (Over Ones.t))"
    "(main 0)"
)
LISTED = ("list", "?a")
TREE = ("tree", "?a", "?b", "?c")
FOUR = ("four", "?b", "?a")


class Schemes(Case):

    def setUp(self):
        self.sorts = Sorts(PROGRAM)

    def test_tags_of_a_kind_without_variables(self):
        self.assertEqual(self.sorts.tag("Off"), ((), "bit"))
        self.assertEqual(self.sorts.tag("On"), ((), "bit"))
        self.assertEqual(self.sorts.tag("Over"), ((), ("->", "Ones.t", "over")))

    def test_tags_of_a_kind_with_variables(self):
        self.assertEqual(self.sorts.tag("Nil"), (("?a",), LISTED))
        self.assertEqual(self.sorts.tag("Cons"), (("?a",), ("->", "?a", ("->", LISTED, LISTED))))
        three = ("?a", "?b", "?c")
        self.assertEqual(self.sorts.tag("Leaf"), (three, TREE))
        self.assertEqual(self.sorts.tag("Last"), (three, ("->", "?c", TREE)))
        four = ("->", "?a", ("->", ("->", "?b", "?c"), ("->", TREE, ("->", "num", TREE))))
        self.assertEqual(self.sorts.tag("Node"), (three, four))

    def test_records(self):
        self.assertEqual(self.sorts.record("one"), ((), ("->", "num", "one")))
        kind = ("->", "?a", ("->", ("->", "?b", "?a"), ("->", ("four", "?a", "?b"), ("->", "bit", FOUR))))
        self.assertEqual(self.sorts.record("four"), (("?b", "?a"), kind))

    def test_fields(self):
        self.assertEqual(self.sorts.field("only"), ((), ("->", "one", "num")))
        for name, kind in (("fa", "?a"), ("fb", ("->", "?b", "?a")), ("fc", ("four", "?a", "?b")), ("fd", "bit")):
            self.assertEqual(self.sorts.field(name), (("?b", "?a"), ("->", FOUR, kind)))

    def test_kinds_and_their_tags(self):
        for kind, tags in (("bit", ["Off", "On"]), ("list", ["Nil", "Cons"]), ("tree", ["Leaf", "Node", "Last"]), ("over", ["Over"])):
            self.assertEqual(self.sorts.tags(kind), tags)
            self.assertIs(type(self.sorts.tags(kind)), list)
            for tag in tags:
                self.assertEqual(self.sorts.kind_of(tag), kind)

    def test_tags_in_the_order_of_the_program(self):
        sorts = Sorts(read("(kind k () (F) (B num) (A) (E) (D k) (C)) (main 0)"))
        self.assertEqual(sorts.tags("k"), ["F", "B", "A", "E", "D", "C"])

    def test_schemes_are_tuples(self):
        for scheme in (self.sorts.tag("On"), self.sorts.tag("Node"), self.sorts.record("four"), self.sorts.field("fa")):
            self.assertIs(type(scheme), tuple)
            self.assertIs(type(scheme[0]), tuple)

    def test_two_beside_one_another(self):
        other = Sorts(read("(kind list (?x ?y) (Cons ?y) (Nil)) (record four () (fa num)) (main 0)"))
        self.assertEqual(other.tag("Cons"), (("?x", "?y"), ("->", "?y", ("list", "?x", "?y"))))
        self.assertEqual(self.sorts.tag("Cons"), (("?a",), ("->", "?a", ("->", LISTED, LISTED))))
        self.assertEqual(other.tags("list"), ["Cons", "Nil"])
        self.assertEqual(self.sorts.tags("list"), ["Nil", "Cons"])
        self.assertEqual(other.record("four"), ((), ("->", "num", "four")))
        self.assertEqual(other.field("fa"), ((), ("->", "four", "num")))
        self.assertEqual(self.sorts.field("fa"), (("?b", "?a"), ("->", FOUR, "?a")))

    def test_a_told_list_is_the_asker_s_own(self):
        self.sorts.tags("list").append("More")
        self.sorts.tags("list").clear()
        told = self.sorts.tags("list")
        told[0] = "Other"
        self.assertEqual(self.sorts.tags("list"), ["Nil", "Cons"])
        self.assertEqual(Sorts(PROGRAM).tags("list"), ["Nil", "Cons"])

    def test_a_program_of_no_kinds(self):
        Sorts(read("(main 0)"))
        Sorts(read("(face F ()) (part P F) (maker M ((X F)) F) (apply Q M P) (main 0)"))


if __name__ == "__main__":
    unittest.main()
