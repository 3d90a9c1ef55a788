import random
import unittest

from facework.kinds import instance, put, variables
from facework.things import things_of
from helping import Case


def kind(text):
    return things_of(text)[0]


def deep_kind(depth, end):
    made = end
    for level in range(depth):
        made = ("->", made, "num")
    return made


def wide_kind(end):
    made = end
    for level in range(10):
        made = ("pair", made, made)
    return made


def some_kind(choice, depth):
    if depth == 0 or choice.random() < 0.2:
        return choice.choice(("num", "bit", "?a", "?b", "?c", "?0", "A.t"))
    return choice.choice((
        ("->", some_kind(choice, depth - 1), some_kind(choice, depth - 1)),
        ("list", some_kind(choice, depth - 1)),
        ("A.u", some_kind(choice, depth - 1), some_kind(choice, depth - 1), some_kind(choice, depth - 1)),
    ))


class Variables(Case):

    def test_in_the_order_of_their_first_standing(self):
        for text, wanted in (
            ("num", []), ("list", []), ("A.t", []), ("?a", ["?a"]), ("(-> num num)", []), ("(-> ?a ?a)", ["?a"]),
            ("(-> ?b ?a)", ["?b", "?a"]), ("(-> (-> ?c ?a) (list ?b))", ["?c", "?a", "?b"]),
            ("(A.t ?b (-> ?a ?b) ?a)", ["?b", "?a"]), ("(list (list (list ?z)))", ["?z"]),
            ("(-> (-> ?a ?b) (-> (-> ?b ?c) (-> ?a ?c)))", ["?a", "?b", "?c"]), ("(a ?a)", ["?a"]), ("(-> a ?a)", ["?a"]),
        ):
            with self.subTest(text):
                told = variables(kind(text))
                self.assertIs(type(told), list)
                self.assertEqual(told, wanted)

    def test_variables_behind_texts(self):
        self.assertEqual(variables(("->", "?1", ("list", "?0"))), ["?1", "?0"])
        self.assertEqual(variables(("->", "?a1", ("->", "?", ("->", "?A.b", "?->")))), ["?a1", "?", "?A.b", "?->"])
        self.assertEqual(variables("?10"), ["?10"])

    def test_the_list_is_the_asker_s_own(self):
        asked = kind("(-> ?a ?b)")
        variables(asked).append("?c")
        variables(asked).clear()
        self.assertEqual(variables(asked), ["?a", "?b"])

    def test_large_and_deep(self):
        self.assertEqual(variables(deep_kind(150, "?a")), ["?a"])
        self.assertEqual(variables(wide_kind(("->", "?b", "?a"))), ["?b", "?a"])


class Put(Case):

    def check(self, text, by, wanted):
        with self.subTest(text=text, by=by):
            by = {variable: kind(one) for variable, one in by.items()}
            ahead = dict(by)
            self.assertEqual(put(kind(text), by), kind(wanted))
            self.assertEqual(by, ahead)

    def test_kinds_in_the_place_of_variables(self):
        self.check("?a", {"?a": "num"}, "num")
        self.check("(-> ?a ?b)", {"?a": "num", "?b": "(list num)"}, "(-> num (list num))")
        self.check("(-> ?a (-> ?a ?a))", {"?a": "(list ?b)"}, "(-> (list ?b) (-> (list ?b) (list ?b)))")
        self.check("(A.t ?c ?b ?a)", {"?b": "num"}, "(A.t ?c num ?a)")

    def test_none_and_such_as_do_not_stand_there(self):
        for text in ("num", "list", "?a", "(-> ?a ?b)", "(list (A.t ?a num))"):
            self.check(text, {}, text)
            self.check(text, {"?z": "num"}, text)
        self.check("(-> ?a ?b)", {"?c": "num", "?b": "bit"}, "(-> ?a bit)")

    def test_all_at_once(self):
        self.check("(-> ?a ?b)", {"?a": "?b", "?b": "?a"}, "(-> ?b ?a)")
        self.check("(-> ?a ?b)", {"?a": "?b", "?b": "num"}, "(-> ?b num)")
        self.check("(-> ?b ?a)", {"?a": "?b", "?b": "num"}, "(-> num ?b)")
        self.check("(-> ?a ?a)", {"?a": "(list ?a)"}, "(-> (list ?a) (list ?a))")
        self.check("(A.t ?a ?b ?c)", {"?a": "?b", "?b": "?c", "?c": "(-> ?a ?b)"}, "(A.t ?b ?c (-> ?a ?b))")

    def test_a_name_and_a_variable_of_the_same_letters(self):
        self.check("(-> a ?a)", {"?a": "num"}, "(-> a num)")
        self.check("(a ?a)", {"?a": "a"}, "(a a)")
        self.assertEqual(put(("->", "a", "?a"), {"a": "num", "num": "a"}), ("->", "a", "?a"))

    def test_variables_behind_texts(self):
        self.assertEqual(put(("->", "?0", "?10"), {"?0": "?10", "?10": "?x1"}), ("->", "?10", "?x1"))
        self.assertEqual(put("?", {"?": "num"}), "num")

    def test_large_and_deep(self):
        self.assertEqual(put(deep_kind(150, "?a"), {"?a": "num"}), deep_kind(150, "num"))
        self.assertEqual(put("?a", {"?a": deep_kind(150, "?a")}), deep_kind(150, "?a"))
        self.assertEqual(put(wide_kind("?a"), {"?a": ("list", "?b")}), wide_kind(("list", "?b")))


class Instance(Case):

    def check(self, wide, narrow, wanted):
        with self.subTest(wide=wide, narrow=narrow):
            told = instance(kind(wide), kind(narrow))
            if wanted is None:
                self.assertIsNone(told)
            else:
                self.assertIs(type(told), dict)
                self.assertEqual(told, {variable: kind(one) for variable, one in wanted.items()})

    def test_what_comes_of_another(self):
        self.check("?a", "num", {"?a": "num"})
        self.check("?a", "(-> num (list ?b))", {"?a": "(-> num (list ?b))"})
        self.check("(-> ?a ?b)", "(-> num (list num))", {"?a": "num", "?b": "(list num)"})
        self.check("(A.t ?a (-> ?b ?c) num)", "(A.t A.u (-> num num) num)", {"?a": "A.u", "?b": "num", "?c": "num"})

    def test_a_variable_that_stands_twice(self):
        self.check("(-> ?a ?a)", "(-> num num)", {"?a": "num"})
        self.check("(-> ?a ?a)", "(-> (list ?b) (list ?b))", {"?a": "(list ?b)"})
        self.check("(-> ?a ?a)", "(-> num bit)", None)
        self.check("(-> ?a ?a)", "(-> ?a ?b)", None)
        self.check("(-> ?a (-> num ?a))", "(-> (list num) (-> num (list ?b)))", None)
        self.check("(A.t ?a ?b ?a)", "(A.t num bit num)", {"?a": "num", "?b": "bit"})

    def test_the_same_variables_in_both(self):
        self.check("(-> ?a ?b)", "(-> ?b ?a)", {"?a": "?b", "?b": "?a"})
        self.check("(-> ?a ?a)", "(-> ?b ?b)", {"?a": "?b"})
        self.check("(-> ?a ?b)", "(-> ?a ?a)", {"?a": "?a", "?b": "?a"})
        self.check("?a", "(list ?a)", {"?a": "(list ?a)"})
        self.check("(-> ?a ?b)", "(-> (list ?b) (list ?a))", {"?a": "(list ?b)", "?b": "(list ?a)"})

    def test_of_a_kind_and_itself(self):
        self.check("num", "num", {})
        self.check("list", "list", {})
        self.check("A.t", "A.t", {})
        self.check("(-> ?a (list ?b))", "(-> ?a (list ?b))", {"?a": "?a", "?b": "?b"})
        self.check("(-> num (list num))", "(-> num (list num))", {})

    def test_what_does_not_come_of_another(self):
        for wide, narrow in (
            ("num", "?a"), ("num", "bit"), ("bit", "num"), ("num", "(-> num num)"), ("(-> num num)", "num"), ("a", "?a"),
            ("(-> ?a ?b)", "?a"), ("(-> ?a ?b)", "(list ?a)"), ("(list ?a)", "(-> ?a ?b)"), ("(list ?a)", "(bag ?a)"),
            ("(list ?a)", "(list num num)"), ("(pair ?a ?b)", "(pair num)"), ("(list ?a)", "list"), ("list", "(list num)"),
            ("A.t", "B.t"), ("A.t", "A.u"), ("A.t", "t"), ("t", "A.t"), ("(A.t ?a)", "(B.t ?a)"), ("(A.t ?a)", "(A.t ?a ?b)"),
            ("(-> ?a ?b)", "(pair ?a ?b)"), ("(-> num ?a)", "(-> ?a num)"), ("(list (list ?a))", "(list ?a)"),
            ("(pair ?a num)", "(pair num bit)"), ("(pair num ?a)", "(pair bit num)"), ("(A.t num num num)", "(A.t num bit num)"),
        ):
            self.check(wide, narrow, None)

    def test_variables_behind_texts(self):
        self.assertEqual(instance(("->", "?0", "?x1"), ("->", "num", "?0")), {"?0": "num", "?x1": "?0"})
        self.assertIsNone(instance(("->", "?0", "?0"), ("->", "num", "?0")))

    def test_the_dict_is_the_asker_s_own(self):
        wide = kind("(-> ?a ?b)")
        narrow = kind("(-> num bit)")
        instance(wide, narrow)["?a"] = "bit"
        instance(wide, narrow).clear()
        self.assertEqual(instance(wide, narrow), {"?a": "num", "?b": "bit"})

    def test_large_and_deep(self):
        self.assertEqual(instance(deep_kind(150, "?a"), deep_kind(150, "num")), {"?a": "num"})
        self.assertIsNone(instance(deep_kind(150, "num"), deep_kind(150, "?a")))
        self.assertEqual(instance(wide_kind("?a"), wide_kind(("list", "?a"))), {"?a": ("list", "?a")})

    def test_put_and_instance_go_together(self):
        choice = random.Random(11)
        for turn in range(400):
            wide = some_kind(choice, 3)
            other = some_kind(choice, 3)
            by = {variable: some_kind(choice, 2) for variable in variables(wide)}
            self.assertEqual(instance(wide, put(wide, by)), by)
            told = instance(wide, other)
            if told is not None:
                self.assertEqual(put(wide, told), other)
                self.assertEqual(sorted(told), sorted(variables(wide)))
            else:
                self.assertNotEqual(wide, other)


if __name__ == "__main__":
    unittest.main()
