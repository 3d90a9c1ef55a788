import unittest

from facework.errors import NoText
from facework.reading import read
from facework.things import things_of
from helping import KEPT, SORTS, Case, is_plain, text_of, thing_with

# The program that the document shows.
SHOWN = (
    "(face Count () (hide t 0) (val zero t) (val up (-> t t))) (part Ones Count (hide t () num)"
    " (val zero 0) (val up (fun x (plus x 1)))) (main (let x Ones.zero 5))"
)
KIND = ("small", "path", "variable", "kept num")
PHRASE = ("small", "great", "path", "number")
NAME = ("small",)
GREAT = ("great",)
VARIABLE = ("variable",)
NONE = ()
LISTLIKE = ("brackets",)


def reads(declaration):
    """Whether the declaration, ahead of a main, is read as it stands."""
    try:
        program = read(declaration + "(main 5)")
    except NoText:
        return False
    assert program == things_of(declaration) + (("main", 5),)
    return True


class Declarations(Case):

    def right(self, *texts):
        for text in texts:
            with self.subTest(text):
                self.assertTrue(reads(text))

    def wrong(self, *texts):
        for text in texts:
            with self.subTest(text):
                self.refused("NoText", read, text + "(main 5)")

    def counts(self, text, piece, least, most):
        """With the piece as often as {} stands for, just least to most are read."""
        for count in range(0, most + 4):
            with self.subTest(text=text, count=count):
                self.assertEqual(reads(text.replace("{}", " " + (piece + " ") * count)), least <= count <= most)

    def place(self, text, path, allowed):
        """In the right declaration, just the allowed sorts may stand at the path."""
        whole = things_of(text)[0]
        self.assertTrue(reads(text), text)
        self.only_sorts(allowed, lambda new: text_of(thing_with(whole, path, new)), reads)

    def test_kind(self):
        self.right("(kind bit () (Off) (On))", "(kind list (?a) (Nil) (Cons ?a (list ?a)))", "(kind k () (T))")
        self.counts("(kind k ({}) (T))", "?a", 0, 3)
        self.counts("(kind k () {})", "(T num)", 1, 6)
        self.counts("(kind k () (T{}))", "num", 0, 4)
        self.counts("(kind k () (T) (U{}))", "(-> num ?b)", 0, 4)
        self.wrong("(kind)", "(kind k)", "(kind k ())", "(kind k (T))", "(kind () (T))", "(kind k ?a (T))")
        self.wrong("(kind k () T)", "(kind k () ())", "(kind k () ((T)))", "(kind k () (T) U)", "(kind (k) () (T))")
        whole = "(kind k (?a ?b ?c) (T) (U num ?a (list ?b) A.t))"
        self.place(whole, (1,), NAME)
        self.place(whole, (2,), LISTLIKE)
        for variable in range(3):
            self.place(whole, (2, variable), VARIABLE)
        self.place(whole, (3,), NONE)
        self.place(whole, (3, 0), GREAT)
        self.place(whole, (4, 0), GREAT)
        for kind in (1, 2, 3, 4):
            self.place(whole, (4, kind), KIND)
        self.place(whole, (4, 3, 1), KIND)

    def test_record(self):
        self.right("(record r () (x num))", "(record pair (?a ?b) (one ?a) (two ?b))")
        self.counts("(record r ({}) (x num))", "?a", 0, 3)
        self.counts("(record r () {})", "(x num)", 1, 4)
        self.counts("(record r () (x {}))", "num", 1, 1)
        self.wrong("(record)", "(record r)", "(record r ())", "(record r (x num))", "(record () (x num))")
        self.wrong("(record r () x)", "(record r () ())", "(record r () (x))", "(record r () x num)")
        self.wrong("(record r () (T num))", "(record r ?a (x num))", "(record r () ((x) num))")
        whole = "(record r (?a ?b ?c) (x num) (y (-> ?a num)))"
        self.place(whole, (1,), NAME)
        self.place(whole, (2,), LISTLIKE)
        for variable in range(3):
            self.place(whole, (2, variable), VARIABLE)
        for field in (3, 4):
            self.place(whole, (field,), NONE)
            self.place(whole, (field, 0), NAME)
            self.place(whole, (field, 1), KIND)
        self.place(whole, (4, 1, 1), KIND)

    def test_face(self):
        self.right("(face F ())", "(face F ((X G)))", "(face F ((X G) (Y (H X))) (hide t 0) (val v (-> t X.t)))")
        self.counts("(face F ({}))", "(X G)", 0, 2)
        self.counts("(face F () {})", "(hide t 0)", 0, 24)
        self.counts("(face F () {})", "(val v t)", 0, 24)
        self.counts("(face F () (hide t 0) {})", "(val v t)", 0, 23)
        self.counts("(face F ((X G{})))", "Y", 0, 0)
        self.counts("(face F ((X (G{}))))", "Y", 1, 2)
        self.wrong("(face)", "(face F)", "(face F (hide t 0))", "(face ())", "(face F G ())", "(face F (X G))")
        self.wrong("(face F ((X)))", "(face F ((X ())))", "(face F (X))", "(face F ((X (G (H Y)))))")
        whole = "(face F ((X G) (Y (H A B))) (hide t 0) (val v num))"
        self.place(whole, (1,), GREAT)
        self.place(whole, (2,), LISTLIKE)
        for giver in (0, 1):
            self.place(whole, (2, giver), NONE)
            self.place(whole, (2, giver, 0), GREAT)
            self.place(whole, (2, giver, 1), GREAT)
        for place in range(3):
            self.place(whole, (2, 1, 1, place), GREAT)

    def test_items(self):
        whole = "(face F () (hide t 0) (val v num))"
        for item in (3, 4):
            self.place(whole, (item,), NONE)
            self.place(whole, (item, 0), NONE)
            self.place(whole, (item, 1), NAME)
        self.place(whole, (3, 2), NONE)
        self.place(whole, (4, 2), KIND)
        for count in range(-3, 6):
            self.assertEqual(reads("(face F () (hide t " + str(count) + "))"), count in (0, 1, 2))
        self.wrong("(face F () (hide t))", "(face F () (hide t 0 0))", "(face F () (hide t () num))", "(face F () (hide))")
        self.wrong("(face F () (val v))", "(face F () (val v num num))", "(face F () (val))", "(face F () ())")
        self.wrong("(face F () (val v 5))", "(face F () (val v (fun x x)))", "(face F () (make t 0))", "(face F () hide)")
        self.place("(face F () (val v (-> (list ?a) (-> num t))))", (3, 2, 1, 1), KIND)
        self.place("(face F () (val v (-> (list ?a) (-> num t))))", (3, 2, 2, 2), KIND)

    def test_part(self):
        self.right("(part P F)", "(part P (F Q))", "(part P (F Q R) (hide t (?a ?b) num) (val v 5))")
        self.counts("(part P (F{}))", "Q", 1, 2)
        self.counts("(part P F {})", "(hide t () num)", 0, 24)
        self.counts("(part P F {})", "(val v 5)", 0, 24)
        self.counts("(part P F (hide t () num) {})", "(val v 5)", 0, 23)
        self.wrong("(part)", "(part P)", "(part (P) F)", "(part P ())", "(part P () F)", "(part P F ())", "(part P F 5)")
        whole = "(part P (F A B) (hide t (?a) num) (val v 5))"
        self.place(whole, (1,), GREAT)
        self.place(whole, (2,), GREAT)
        for place in range(3):
            self.place(whole, (2, place), GREAT)
        self.body(whole, 3, 4)

    def body(self, whole, hide, val):
        for item in (hide, val):
            self.place(whole, (item,), NONE)
            self.place(whole, (item, 0), NONE)
            self.place(whole, (item, 1), NAME)
        self.place(whole, (hide, 2), LISTLIKE)
        self.place(whole, (hide, 2, 0), VARIABLE)
        self.place(whole, (hide, 3), KIND)
        self.place(whole, (val, 2), PHRASE)

    def test_body_items(self):
        self.counts("(part P F (hide t ({}) num))", "?a", 0, 2)
        self.counts("(part P F (hide t () {}))", "num", 1, 1)
        self.counts("(part P F (val v {}))", "5", 1, 1)
        self.wrong("(part P F (hide t 0))", "(part P F (hide t num))", "(part P F (hide t))", "(part P F (hide))")
        self.wrong("(part P F (hide t () 5))", "(part P F (hide t () num num))", "(part P F (hide t ?a num))")
        self.wrong("(part P F (val v))", "(part P F (val v () 5))", "(part P F (val v num))", "(part P F (val v (-> t t)))")
        self.wrong("(part P F (val))", "(part P F (let v 5))", "(part P F (val v 5 5))", "(part P F (val (v) 5))")
        self.place("(part P F (hide t (?a ?b) (-> ?a (list num))))", (3, 2, 1), VARIABLE)
        self.place("(part P F (hide t (?a ?b) (-> ?a (list num))))", (3, 3, 2, 1), KIND)
        self.place("(part P F (val v (fun x (plus x 1))))", (3, 2, 2, 1), PHRASE)

    def test_maker(self):
        self.right("(maker M ((X F)) G)", "(maker M ((X F) (Y (G X))) (H X Y) (hide t () X.t) (val v X.v))")
        self.counts("(maker M ({}) G)", "(X F)", 1, 2)
        self.counts("(maker M ((X F)) (G{}))", "Q", 1, 2)
        self.counts("(maker M ((X (F{}))) G)", "Q", 1, 2)
        self.counts("(maker M ((X F)) G {})", "(val v 5)", 0, 24)
        self.counts("(maker M ((X F)) G {})", "(hide t () num)", 0, 24)
        self.counts("(maker M ((X F)) G (hide t ({}) num))", "?a", 0, 2)
        self.counts("(maker M ((X F)) G (val v {}))", "5", 1, 1)
        self.wrong("(maker)", "(maker M)", "(maker M ((X F)))", "(maker M (X F) G)", "(maker M G)", "(maker M X F)")
        self.wrong("(maker M G (val v 5))", "(maker ((X F)) G)", "(maker M ((X F)) (val v 5))", "(maker M ((X F)) ())")
        whole = "(maker M ((X F) (Y (G A B))) (H C D) (hide t (?a) num) (val v 5))"
        self.place(whole, (1,), GREAT)
        self.place(whole, (2,), NONE)
        for giver in (0, 1):
            self.place(whole, (2, giver), NONE)
            self.place(whole, (2, giver, 0), GREAT)
            self.place(whole, (2, giver, 1), GREAT)
        self.place(whole, (3,), GREAT)
        for place in range(3):
            self.place(whole, (2, 1, 1, place), GREAT)
            self.place(whole, (3, place), GREAT)
        self.body(whole, 4, 5)

    def test_apply(self):
        self.right("(apply P M Q)", "(apply P M Q R)")
        self.counts("(apply P M{})", "Q", 1, 2)
        self.wrong("(apply)", "(apply P)", "(apply P M (Q))", "(apply P (M Q))", "(apply (P M Q))")
        for place in (1, 2, 3, 4):
            self.place("(apply P M Q R)", (place,), GREAT)

    def test_main(self):
        self.assertEqual(read("(main 5)"), (("main", 5),))
        self.assertEqual(read("(main (plus 1 x))"), (("main", ("plus", 1, "x")),))
        for text in ("(main)", "(main 5 5)", "(main ())", "main", "main 5", "((main 5))", "(main num)", "(main (fun x))"):
            self.refused("NoText", read, text)
        for sort, thing in SORTS.items():
            with self.subTest(sort):
                if sort in PHRASE:
                    self.assertEqual(read(text_of(("main", thing))), (("main", thing),))
                else:
                    self.refused("NoText", read, text_of(("main", thing)))

    def test_what_stands_first(self):
        for head in KEPT + ["x", "Abc", "A.x", "?a", "->", "5", "()"]:
            for rest in ("", " 5", " x", " A", " () (A)", " k (T)"):
                self.wrong("(" + head + rest + ")")
        self.wrong("5", "x", "Abc", "?a", "->", "A.x", "()", "(())", "kind", "(5)", "((kind k () (T)))")

    def test_names_that_stand_twice_or_are_not_there_are_read(self):
        self.right("(kind k (?a ?a) (T ?b) (T nobody)) (kind k () (T))", "(part P Nobody (val v v) (val v Q.v))")
        self.right("(face F ((F F) (F F)) (hide t 0) (hide t 2))", "(apply P P P P)", "(record r () (x r) (x r))")


class Programs(Case):

    def test_the_program_shown(self):
        self.assertEqual(read(SHOWN), (
            ("face", "Count", (), ("hide", "t", 0), ("val", "zero", "t"), ("val", "up", ("->", "t", "t"))),
            ("part", "Ones", "Count", ("hide", "t", (), "num"), ("val", "zero", 0),
             ("val", "up", ("fun", "x", ("plus", "x", 1)))),
            ("main", ("let", "x", "Ones.zero", 5)),
        ))

    def test_one_to_twenty_four_declarations(self):
        for count in (1, 2, 23, 24, 25, 26, 40):
            text = "(kind k () (T))" * (count - 1) + "(main 5)"
            with self.subTest(count):
                if count <= 24:
                    self.assertEqual(len(read(text)), count)
                else:
                    self.refused("NoText", read, text)

    def test_the_last_is_a_main_and_no_other(self):
        for text in (
            "", " ", "\n", "()", "(kind k () (T))", "(main 5) (kind k () (T))", "(main 5) (main 5)",
            "(main 5) (kind k () (T)) (main 5)", "(kind k () (T)) (main 5) (main 6)", "(kind k () (T)) (main 5) 5",
            "(kind k () (T)) main 5", "(apply P M Q)", "5", "(main 5) ()",
            "(x 5)", "(val 5)", "(Main 5)", "(mains 5)", "(?main 5)", "(5 5)", "(() 5)", "((main) 5)", "(T) (main 5)",
        ):
            with self.subTest(text):
                self.refused("NoText", read, text)

    def test_what_is_no_text_is_not_read(self):
        for text in (
            "(main 5", "main 5)", "(main 5))", "((main 5)", "(main -0)", "(main 05)", "(main 1_0)", "(main abcdefghi)",
            "(main A.num)", "(main " + "1" * 31 + ")", "(main 5)!", "(main (call f5))", "(main ?)", "(main (plus 1 -))",
        ):
            with self.subTest(text):
                self.refused("NoText", read, text)
                self.refused("NoText", things_of, text)

    def test_blanks_and_line_feeds(self):
        wanted = read(SHOWN)
        self.assertEqual(read(SHOWN.replace(" ", "\n")), wanted)
        self.assertEqual(read(SHOWN.replace(" ", "   ").replace("(", "\n( ").replace(")", " )\n")), wanted)
        self.assertEqual(read(SHOWN.replace(") (", ")(").replace(" (", "(")), wanted)

    def test_twenty_brackets_and_twenty_one(self):
        for depth in (1, 10, 19, 20, 21, 30):
            text = "(main " + "(fun x " * (depth - 1) + "5" + ")" * depth
            with self.subTest(depth):
                if depth <= 20:
                    thing = read(text)[0][1]
                    for level in range(depth - 1):
                        self.assertEqual(thing[:2], ("fun", "x"))
                        thing = thing[2]
                    self.assertEqual(thing, 5)
                else:
                    self.refused("NoText", read, text)
                    self.refused("NoText", things_of, text)

    def test_six_thousand_signs_and_one_more(self):
        for gap in (" ", "\n"):
            self.assertEqual(read("(main 5)" + gap * 5992), (("main", 5),))
            self.assertEqual(read(gap * 5992 + "(main 5)"), (("main", 5),))
            self.assertEqual(read("(main" + gap * 5993 + "5)"), (("main", 5),))
            for text in ("(main 5)" + gap * 5993, gap * 5993 + "(main 5)", "(main" + gap * 5994 + "5)"):
                self.refused("NoText", read, text)
                self.refused("NoText", things_of, text)

    def test_what_is_read_is_of_ints_texts_and_tuples(self):
        program = read("(face F () (hide t 0) (hide u 1)) (kind k () (T)) (main (plus 0 (minus 1 -1)))")
        self.assertTrue(is_plain(program))
        self.assertIs(type(program[0][3][2]), int)
        self.assertIs(type(program[-1][1][1]), int)


if __name__ == "__main__":
    unittest.main()
