import itertools
import re
import unittest

from facework.things import things_of
from helping import KEPT, Case, is_plain

# Signs from the blank to ~ that stand in no word and no number (the percent sign left out).
STRANGE = "!\"#$&'*+,/:;<=@[\\]^_`{|}~"

# The document's words and numbers, told another way than the program tells them.
NUMBER = re.compile("0|-?[1-9][0-9]{0,29}")
WORD = re.compile("[a-z]{1,8}|[A-Z][a-z]{0,7}|[?][a-z]{1,8}|->|[A-Z][a-z]{0,7}[.](?!(?:" + "|".join(KEPT) + ")$)[a-z]{1,8}")


class Numbers(Case):

    def one(self, text, number):
        things = things_of(text)
        self.assertEqual(things, (number,))
        self.assertIs(type(things[0]), int)

    def test_numbers_of_one_to_thirty_figures(self):
        for count in (1, 2, 15, 29, 30):
            self.one("9" * count, 10 ** count - 1)
            self.one("-" + "9" * count, 1 - 10 ** count)
            self.one("1" + "0" * (count - 1), 10 ** (count - 1))
        for figure in range(10):
            self.one(str(figure), figure)

    def test_more_than_thirty_figures(self):
        for text in ("1" * 31, "-" + "1" * 31, "1" + "0" * 30, "9" * 60, "1" * 4500):
            self.refused("NoText", things_of, text)

    def test_nought(self):
        self.one("0", 0)
        for text in ("-0", "00", "-00", "01", "-01", "007", "0" * 30, "0" * 31, "(-0)"):
            self.refused("NoText", things_of, text)

    def test_nought_within_and_at_the_end(self):
        self.one("10", 10)
        self.one("-105", -105)

    def test_the_sign_below_nought_stands_straight_ahead(self):
        self.one("-1", -1)
        for text in ("-", "- 1", "-\n1", "--1", "1-", "-(1)", "+1", "-a", "(-)"):
            self.refused("NoText", things_of, text)

    def test_what_only_looks_like_a_number(self):
        for text in ("1_0", "1.0", "1e3", "0x1", "1,0", "1/2", "?1"):
            self.refused("NoText", things_of, text)


class Words(Case):

    def words(self, *texts):
        for text in texts:
            with self.subTest(text):
                self.assertEqual(things_of(text), (text,))
                self.assertEqual(things_of("(" + text + ")"), ((text,),))

    def none(self, *texts):
        for text in texts:
            with self.subTest(text):
                self.refused("NoText", things_of, text)
                self.refused("NoText", things_of, "(" + text + ")")

    def test_small_names(self):
        self.words("a", "z", "ab", "abcdefgh", "stuvwxyz", "ijklmnop", "qr")
        self.none("abcdefghi", "a" * 100)

    def test_kept_names_are_words(self):
        self.assertEqual(len(KEPT), 22)
        self.words(*KEPT)

    def test_great_names(self):
        self.words("A", "Z", "Ab", "Zz", "Abcdefgh", "M")
        for letter in "ABCDEFGHIJKLMNOPQRSTUVWXYZ":
            self.words(letter)
        self.none("Abcdefghi", "AB", "AbC", "AbcdefgH", "aB", "abC", "ABCDEFGH")

    def test_paths(self):
        self.words("A.a", "Ones.zero", "Abcdefgh.abcdefgh", "Z.z")
        self.none("Abcdefghi.a", "A.abcdefghi")
        self.none("A.", ".a", ".", "A..a", "A.a.a", "A.a.", ".A.a", "A.A", "a.a", "a.A", "A.?a", "?a.a", "A.aA", "AB.a")
        self.none("A.1", "A.->", "1.a", "A .a", "A. a", "A . a", "(A).a")

    def test_no_path_goes_to_a_kept_name(self):
        self.none(*["Ab." + name for name in KEPT])
        self.words("Ab.nums", "Ab.nu", "Ab.ifs", "Ab.i")

    def test_variables(self):
        self.words("?a", "?z", "?abcdefgh")
        self.words(*["?" + name for name in KEPT])
        self.none("?", "?abcdefghi", "?A", "?aB", "?Ab", "?0", "?a0", "??a", "a?", "?a?", "? a", "?A.a", "?->")

    def test_the_arrow(self):
        self.words("->")
        self.none("-", ">", "- >", "->>", "-->", "->->", "<-", ">-", "-\n>", "=>")

    def test_a_sign_that_no_word_has(self):
        for sign in STRANGE:
            self.none(sign)
            for word in ("abc", "Abc", "Ab.cd", "?abc", "->", "123", "-123"):
                for place in range(len(word) + 1):
                    self.none(word[:place] + sign + word[place:])
                for place in range(len(word)):
                    self.none(word[:place] + sign + word[place + 1:])

    def test_signs_of_another_sort_of_word(self):
        for word in ("abc", "Abc", "?abc"):
            for sign in "09?->":
                for place in range(1, len(word)):
                    self.none(word[:place] + sign + word[place:])
        for word in ("abc", "?abc"):
            for place in range(len(word) + 1):
                self.none(word[:place] + "." + word[place:])
        self.none("a1", "1a", "A1", "a-", "a-b", "a.b")


class AllShortTexts(Case):

    def told(self, piece):
        if NUMBER.fullmatch(piece):
            return (int(piece),)
        return (piece,) if WORD.fullmatch(piece) else None

    def holds(self, text):
        wanted = ()
        for piece in re.split("[ \n]+", text):
            if piece:
                told = self.told(piece)
                wanted = None if wanted is None or told is None else wanted + told
        if wanted is None:
            self.refused("NoText", things_of, text)
        else:
            self.assertEqual(things_of(text), wanted)

    def test_every_text_of_one_and_of_two_signs(self):
        signs = [sign for sign in map(chr, range(32, 127)) if sign not in "()%"] + ["\n"]
        for length in (1, 2):
            for text in itertools.product(signs, repeat=length):
                self.holds("".join(text))

    def test_every_short_text_of_the_signs_that_words_have(self):
        for length in (3, 4):
            for text in itertools.product("a0A.?-> 5", repeat=length):
                self.holds("".join(text))

    def test_words_and_numbers_around_their_longest(self):
        for small in range(0, 11):
            for great in range(0, 11):
                self.holds("A" + "b" * great + "." + "c" * small)
        for count in range(1, 34):
            for sign in ("", "-"):
                self.holds(sign + "1" * count)
                self.holds(sign + "0" * count)


class Between(Case):

    def test_blanks_and_line_feeds_count_for_nothing(self):
        wanted = (("main", ("plus", 1, "Ones.up")), "?a", "->", -3)
        for gap in (" ", "\n", "  ", " \n ", "\n\n\n", "   \n   \n"):
            for edge in ("", gap):
                text = gap.join(["(", "main", "(", "plus", "1", "Ones.up", ")", ")", "?a", "->", "-3"])
                self.assertEqual(things_of(edge + text + edge), wanted)

    def test_a_bracket_is_enough_between(self):
        self.assertEqual(things_of("(a(b)c)"), (("a", ("b",), "c"),))
        self.assertEqual(things_of("5(6)7"), (5, (6,), 7))
        self.assertEqual(things_of("a()b"), ("a", (), "b"))
        self.assertEqual(things_of("5()a(5)?b()->(A)A.a"), (5, (), "a", (5,), "?b", (), "->", ("A",), "A.a"))
        self.assertEqual(things_of("(a)(b)"), (("a",), ("b",)))
        self.assertEqual(things_of("(-5)-5(->)"), ((-5,), -5, ("->",)))

    def test_nothing_between(self):
        pairs = ["a", "A", "A.b", "?a", "->", "5", "-5"]
        fine = {"aa": ("aa",), "Aa": ("Aa",), "A.ba": ("A.ba",), "?aa": ("?aa",), "55": (55,), "-55": (-55,)}
        for one in pairs:
            for other in pairs:
                with self.subTest(one + other):
                    if one + other in fine:
                        self.assertEqual(things_of(one + other), fine[one + other])
                    else:
                        self.refused("NoText", things_of, one + other)
                    self.assertEqual(len(things_of(one + " " + other)), 2)
                    self.assertEqual(len(things_of(one + "\n" + other)), 2)

    def test_a_text_of_no_things(self):
        for text in ("", " ", "\n", " \n \n  "):
            self.assertEqual(things_of(text), ())

    def test_brackets_with_nothing_between(self):
        self.assertEqual(things_of("()"), ((),))
        self.assertEqual(things_of("( )"), ((),))
        self.assertEqual(things_of("(\n)"), ((),))
        self.assertEqual(things_of("(()())()"), (((), ()), ()))

    def test_things_are_ints_texts_and_tuples(self):
        self.assertTrue(is_plain(things_of("(kind a (?b) (C num 0 1)) 0 1 (() A.b)")))


class Bounds(Case):

    def test_twenty_brackets_and_twenty_one(self):
        for inner in ("", "5", "a b"):
            for ahead in ("", "() ", "((5)) "):
                text = ahead + "(" * 20 + inner + ")" * 20
                thing = things_of(text)[-1]
                for level in range(19):
                    self.assertEqual(len(thing), 1)
                    thing = thing[0]
                self.assertEqual(thing, things_of(inner))
                self.refused("NoText", things_of, ahead + "(" * 21 + inner + ")" * 21)

    def test_only_brackets_within_one_another_are_counted(self):
        self.assertEqual(things_of("()" * 100), ((),) * 100)
        self.assertEqual(things_of("(" + "(5)" * 50 + ")"), (((5,),) * 50,))
        wide = "(" * 19 + "() " * 30 + ")" * 19
        self.assertEqual(things_of(wide + wide), things_of(wide) * 2)

    def test_too_many_brackets_at_any_place(self):
        self.refused("NoText", things_of, "(a " + "(" * 20 + ")" * 20 + " b)")
        self.refused("NoText", things_of, "(" * 20 + ")" * 19 + "(" * 20 + ")" * 21)
        self.refused("NoText", things_of, "(" * 6000)
        self.refused("NoText", things_of, "(" * 3000 + ")" * 3000)

    def test_six_thousand_signs_and_one_more(self):
        self.assertEqual(things_of("5" + " " * 5999), (5,))
        self.assertEqual(things_of("\n" * 5999 + "5"), (5,))
        self.assertEqual(things_of("a " * 3000), ("a",) * 3000)
        self.assertEqual(things_of("()" * 3000), ((),) * 3000)
        self.assertEqual(things_of(" " * 6000), ())
        for text in ("5" + " " * 6000, "\n" * 6000 + "5", "a " * 3000 + "a", " " * 6001, "\n" * 6001, "()" * 3000 + " "):
            self.refused("NoText", things_of, text)

    def test_a_bracket_too_few_or_too_many(self):
        for text in ("(", ")", "(5", "5)", "((5)", "(5))", ")(", "(5) )", "( (5)", "5 ) ( 5", "())(", "(()"):
            self.refused("NoText", things_of, text)

    def test_a_declaration(self):
        self.assertEqual(things_of("(main 5)"), (("main", 5),))


if __name__ == "__main__":
    unittest.main()
