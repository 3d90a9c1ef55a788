import itertools
import random
import unittest

from facework.joining import joined
from facework.kinds import instance, put, variables
from helping import Case, part_of
from plain import Wrong, settled, unified


def pairs_of(*texts):
    """Pairs of kinds, each text holding both with a = between."""
    return [tuple(part_of(side) for side in text.split("=")) for text in texts]


def chain(kinds):
    made = "num"
    for kind in kinds:
        made = ("->", kind, made)
    return made


def some_kind(choice, depth):
    if depth == 0 or choice.random() < 0.3:
        return choice.choice(("?a", "?b", "?c", "?d", "?0", "num", "bit", "A.t"))
    return choice.choice((
        ("->", some_kind(choice, depth - 1), some_kind(choice, depth - 1)),
        ("list", some_kind(choice, depth - 1)),
        ("A.u", some_kind(choice, depth - 1), some_kind(choice, depth - 1)),
    ))


def some_pairs(choice):
    return [(some_kind(choice, 2), some_kind(choice, 2)) for turn in range(choice.choice((1, 1, 2, 3)))]


def plainly_joined(pairs):
    by = {}
    try:
        for one, other in pairs:
            unified(one, other, by)
    except Wrong:
        return None
    return {variable: settled(variable, by) for variable in by}


class Joined(Case):

    def right(self, pairs, told):
        """The told dict makes both of each pair the same, and none of its variables stands in its kinds."""
        self.assertIs(type(told), dict)
        for one, other in pairs:
            self.assertEqual(put(one, told), put(other, told))
        there = [variable for pair in pairs for kind in pair for variable in variables(kind)]
        for variable, kind in told.items():
            self.assertIn(variable, there)
            for inner in variables(kind):
                self.assertIn(inner, there)
                self.assertNotIn(inner, told)

    def comes_of(self, pairs, told, other):
        """Each answer of the other joining dict is the told one, with kinds put in, the same for all."""
        there = sorted({variable for pair in pairs for kind in pair for variable in variables(kind)})
        wide = chain([told.get(variable, variable) for variable in there])
        narrow = chain([other.get(variable, variable) for variable in there])
        self.assertIsNotNone(instance(wide, narrow), (pairs, told, other))

    def let_by(self, *texts, others=()):
        pairs = pairs_of(*texts)
        for order in itertools.permutations(pairs):
            for turned in (order, [(other, one) for one, other in order]):
                with self.subTest(turned):
                    told = joined(list(turned))
                    self.right(turned, told)
                    self.comes_of(pairs, told, plainly_joined(pairs))
                    for other in others:
                        self.comes_of(pairs, told, {variable: part_of(kind) for variable, kind in other.items()})

    def none(self, *texts):
        for order in itertools.permutations(pairs_of(*texts)):
            for turned in (order, [(other, one) for one, other in order]):
                with self.subTest(turned):
                    self.assertIsNone(joined(list(turned)))

    def test_no_pairs(self):
        self.assertEqual(joined([]), {})

    def test_pairs_of_the_same_kinds(self):
        for text in ("num = num", "?a = ?a", "(-> ?a num) = (-> ?a num)", "A.t = A.t", "(A.t ?a ?b) = (A.t ?a ?b)"):
            self.assertEqual(joined(pairs_of(text)), {})
            self.assertEqual(joined(pairs_of(text, text)), {})

    def test_a_variable_and_a_kind(self):
        self.assertEqual(joined(pairs_of("?a = num")), {"?a": "num"})
        self.assertEqual(joined(pairs_of("(-> num ?b) = ?a")), {"?a": ("->", "num", "?b")})
        self.assertEqual(joined(pairs_of("?0 = (list ?x1)")), {"?0": ("list", "?x1")})
        self.assertIn(joined(pairs_of("?a = ?b")), ({"?a": "?b"}, {"?b": "?a"}))
        self.let_by("?a = ?b", others=[{"?a": "num", "?b": "num"}, {"?a": "?c", "?b": "?c"}])
        self.let_by("?a = (list ?b)", others=[{"?a": "(list num)", "?b": "num"}, {"?a": "(list (list ?a))", "?b": "(list ?a)"}])

    def test_kinds_within_kinds(self):
        self.assertEqual(joined(pairs_of("(-> ?a bit) = (-> num ?b)")), {"?a": "num", "?b": "bit"})
        self.assertEqual(joined(pairs_of("(A.t ?a (list ?b)) = (A.t (-> num num) (list bit))")), {"?a": ("->", "num", "num"), "?b": "bit"})
        self.let_by("(-> ?a ?b) = (-> ?b ?a)", others=[{"?a": "num", "?b": "num"}])
        self.let_by("(-> ?a ?b) = (-> ?b (list ?c))", others=[{"?a": "(list num)", "?b": "(list num)", "?c": "num"}])

    def test_a_variable_in_its_own_kind(self):
        self.none("?a = (list ?a)")
        self.none("?a = (-> num (list (-> ?a num)))")
        self.none("(-> ?a ?a) = (-> ?b (list ?b))")
        self.none("?a = (list ?b)", "?b = (list ?a)")
        self.none("?a = (list ?b)", "?b = (-> ?c ?c)", "?c = (list ?a)")
        self.none("?a = ?b", "?b = (list ?a)")
        self.none("?a = ?b", "?b = ?c", "?c = (-> num ?a)")
        self.none("?a = (list ?c)", "?b = (list ?a)", "?a = ?b")
        self.none("(-> ?a ?b) = (-> (list ?b) (list ?a))")
        self.none("?a = (list (list ?a))", "?a = (list ?a)")
        self.none("?a = (list (list ?b))", "?b = (list ?a)", "?a = (list ?b)")
        self.none("?a = (list ?b)", "?b = (list ?c)", "?a = ?c")

    def test_pairs_that_hang_on_one_another(self):
        self.let_by("?a = ?b", "?b = ?c", "?c = num")
        self.let_by("?a = (list ?b)", "?b = (list ?c)", "?c = num")
        self.let_by("?a = (list ?b)", "?a = ?c", "?c = (list num)")
        self.let_by("?a = (-> ?b ?c)", "?a = (-> ?c ?d)", "?d = num")
        self.let_by("?a = ?b", "?c = ?d", "?b = ?c", others=[{name: "(list num)" for name in ("?a", "?b", "?c", "?d")}])
        self.let_by("?a = (list ?b)", "?c = (list ?d)", "?a = ?c", "?b = ?d")
        self.none("?a = num", "?a = bit")
        self.none("?a = ?b", "?b = num", "?a = bit")
        self.none("?a = (list ?b)", "?a = ?c", "?c = (-> num num)")
        self.none("?a = ?b", "?a = num", "?b = (list num)")

    def test_what_can_not_be_the_same(self):
        for text in (
            "num = bit", "num = (-> num num)", "num = (list num)", "(-> ?a ?b) = (list ?a)", "(-> ?a ?b) = (pair ?a ?b)",
            "(list ?a) = (bag ?a)", "(list ?a) = list", "(list ?a) = (list ?a ?b)", "(pair ?a ?b) = (pair ?a ?b ?c)",
            "A.t = B.t", "A.t = A.u", "A.t = t", "(A.t ?a) = (B.t ?a)", "(A.t ?a) = (t ?a)", "a = b", "(-> num num) = (-> num bit)",
            "(-> num num) = (-> bit num)", "(list (list ?a)) = (list num)", "(-> ?a ?a) = (-> num bit)",
        ):
            self.none(text)
            self.none(text, "?x = ?y")

    def test_a_name_and_a_variable_of_the_same_letters(self):
        self.assertEqual(joined(pairs_of("?a = a")), {"?a": "a"})
        self.assertEqual(joined(pairs_of("(a ?a) = (a a)")), {"?a": "a"})
        self.none("?a = a", "?a = b")

    def test_some_pairs(self):
        choice = random.Random(5)
        count = 0
        for turn in range(3000):
            pairs = some_pairs(choice)
            told = joined(pairs)
            other = plainly_joined(pairs)
            self.assertEqual(told is None, other is None, pairs)
            if told is not None:
                count += 1
                self.right(pairs, told)
                self.comes_of(pairs, told, other)
                self.comes_of(pairs, other, told)
        self.assertGreater(count, 500)

    def test_what_is_narrower_comes_of_the_told(self):
        choice = random.Random(6)
        for turn in range(500):
            pairs = some_pairs(choice)
            told = joined(pairs)
            if told is not None:
                more = {name: some_kind(choice, 2) for name in ("?a", "?b", "?c", "?d", "?0")}
                narrower = {name: put(told.get(name, name), more) for name in more}
                self.comes_of(pairs, told, narrower)

    def test_what_is_handed_in_stays_and_what_is_told_is_the_asker_s(self):
        pairs = pairs_of("?a = (list ?b)", "?b = num")
        told = joined(pairs)
        told["?a"] = "bit"
        told.clear()
        self.assertEqual(pairs, pairs_of("?a = (list ?b)", "?b = num"))
        self.assertEqual(joined(pairs), {"?a": ("list", "num"), "?b": "num"})
        self.assertIsNone(joined(pairs_of("num = bit")))
        self.assertEqual(joined(pairs), {"?a": ("list", "num"), "?b": "num"})

    def test_large_and_deep(self):
        one = "?a"
        other = "num"
        for level in range(150):
            one = ("->", one, "num")
            other = ("->", other, "num")
        self.assertEqual(joined([(one, other)]), {"?a": "num"})
        self.assertIsNone(joined([(one, "?b"), ("?b", "?a")]))
        names = ["?" + str(place) for place in range(2000)]
        told = joined([(name, after) for name, after in zip(names, names[1:])] + [("?0", "num")])
        self.assertEqual(told, {name: "num" for name in names})
        wide = "?a"
        for level in range(10):
            wide = ("pair", wide, wide)
        self.assertEqual(joined([(wide, put(wide, {"?a": ("list", "?b")}))]), {"?a": ("list", "?b")})

    def test_what_would_be_too_large_to_write_down_is_still_told_apart(self):
        pairs = []
        for place in range(90):
            for name in ("?x", "?y"):
                inner = name + str(place)
                pairs.append((name + str(place + 1), ("pair", inner, inner)))
        self.assertIsNone(joined(pairs + [("?x90", "?y90"), ("?x0", "num"), ("?y0", "bit")]))
        self.assertIsNone(joined(pairs + [("?x0", "?y0"), ("?x90", "?y89")]))


if __name__ == "__main__":
    unittest.main()
