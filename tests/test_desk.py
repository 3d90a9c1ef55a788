"""[29]: the desk."""

import unittest

from facework.desk import Desk
from facework.errors import FaceError
from helping import Case
from programs import BIT, COUNT, LIST, NUMBERS, ONES, PAIR, TEXTS

GREAT = f"(times {10 ** 29} (times {10 ** 29} 1000))"
DEEP = "(ring ((f x (call f x))) (call f 0))"
LONG = "(ring ((f x (if x (plus (call f (minus x 1)) (call f (minus x 1))) 1))) (call f 9))"

RICH = (
    BIT + LIST + PAIR +
    "(face F () (hide t 0) (hide h 1) (val a t) (val get (-> t (-> ?b (-> ?a (pair ?a ?b))))) (val wrap (-> ?x (h ?x))) (val t num) (val l (list t)))"
    "(part P F (hide t () num) (hide h (?z) (list ?z)) (val a 1) (val get (fun x (fun y (fun z (make pair z y)))))"
    " (val wrap (fun x (Cons x Nil))) (val t 5) (val l Nil) (val more 7))"
    "(face G ((X F)) (hide u 0) (val go (-> X.t (-> u (X.h bit)))))"
    "(maker M ((Y F)) (G Y) (hide u () num) (val go (fun x (fun y (call Y.wrap Off)))))"
    "(apply A M P)"
    "(main (plus P.t 1))"
)


class Rows(Case):

    def setUp(self):
        self.desk = Desk()

    def says(self, row, wanted):
        told = self.desk.say(row)
        self.assertIs(type(told), str)
        self.assertEqual(told, wanted, row)

    def no(self, name, row):
        self.refused(name, self.desk.say, row)


class Loads(Rows):

    def test_programs(self):
        for name, (text, number) in TEXTS.items():
            with self.subTest(name):
                self.says("load " + text, "taken")
                self.says("run", str(number))
                self.says("code", str(number))

    def test_texts_with_blanks_and_line_feeds(self):
        for text in ("(main 5)", "( main 5 )", "(main\n5)", "(main   5)\n", "\n(main 5)", "(main 5) "):
            self.says("load " + text, "taken")
            self.says("run", "5")

    def test_loads_that_are_refused_in_each_way(self):
        self.says("load (main 7)", "taken")
        for name, text in (
            ("NoText", "(main"), ("NoText", "(main 5) (main 6)"), ("NoText", "5"), ("NoText", "main 5"), ("NoText", ""), ("NoText", "(main -0)"),
            ("Twice", "(kind k () (A) (A)) (main 0)"), ("NoName", "(main x)"), ("NoCount", BIT + "(main (On 1))"),
            ("NoKind", "(main (fun x x))"), ("NoKind", "(main (call 1 1))"), ("NoFace", "(face F () (val v num)) (part P F) (main 0)"),
        ):
            self.no(name, "load " + text)
            # What was kept stays.
            self.says("run", "7")
            self.says("main", "1")

    def test_a_program_that_is_refused_when_it_is_run_is_taken(self):
        for name, phrase in (("TooGreat", GREAT), ("TooDeep", DEEP), ("TooLong", LONG)):
            self.says(f"load (main {phrase})", "taken")
            self.no(name, "run")
            self.no(name, "code")
            self.assertGreater(int(self.desk.say("main")), 3)
            self.no(name, "run")

    def test_a_load_behind_another(self):
        self.says("load " + RICH, "taken")
        self.says("kind P.a", "P.t")
        self.says("load (main 4)", "taken")
        self.no("NoName", "kind P.a")
        self.says("run", "4")
        self.says("main", "1")

    def test_rows_ahead_of_a_load(self):
        for turn in range(2):
            for row in ("run", "code", "main", "kind P.v", "kind Q.w"):
                self.no("NoProgram", row)
            for row in ("", "walk", "run now", "kind p"):
                self.no("NoRow", row)

    def test_rows_behind_a_refused_load(self):
        for text in ("(main", "(main x)", "(main (call 1 1))", "(face F () (val v num)) (part P F) (main 0)"):
            with self.assertRaises(FaceError):
                self.desk.say("load " + text)
            for row in ("run", "code", "main", "kind P.v"):
                self.no("NoProgram", row)


class Forms(Rows):

    OTHERS = (
        "", " ", "  ", "\n", "run ", " run", "run\n", "\nrun", "runs", "ru", "Run", "RUN", "run run", "run 5", "run (main 5)", "code ", " code", "Code", "codes",
        "code 1", "main ", " main", "Main", "main 5", "(main 5)", "main main", "kind", "kind ", " kind P.a", "kind  P.a", "kind P.a ", "kind\nP.a", "kind P.a\n",
        "kind P.a P.a", "kind P.a num", "Kind P.a", "KIND P.a", "kinds P.a", "kind P", "kind a", "kind p.a", "kind P.", "kind .a", "kind P.A", "kind P.a.b",
        "kind P .a", "kind P. a", "kind P.num", "kind P.fun", "kind PP.a", "kind P.?a", "kind (P.a)", "kind 5", "kind P.abcdefghi", "kind Pabcdefgh.a",
        "load", " load (main 5)", "Load (main 5)", "LOAD (main 5)", "loads (main 5)", "load(main 5)", "load\n(main 5)", "load  (main 5)", "P.a", "kindP.a",
        "taken", "stop", "say run",
    )

    def test_other_rows(self):
        for row in self.OTHERS:
            self.no("NoRow", row)
        self.says("load " + RICH, "taken")
        for row in self.OTHERS:
            self.no("NoRow", row)
            self.says("run", "6")


class Kinds(Rows):

    def setUp(self):
        self.desk = Desk()
        self.says("load " + RICH, "taken")

    def test_what_parts_show(self):
        self.says("kind P.a", "P.t")
        self.says("kind P.t", "num")
        self.says("kind P.l", "(list P.t)")

    def test_variables_in_their_order(self):
        self.says("kind P.get", "(-> P.t (-> ?0 (-> ?1 (pair ?1 ?0))))")
        self.says("kind P.wrap", "(-> ?0 (P.h ?0))")

    def test_what_applied_parts_show(self):
        self.says("kind A.go", "(-> P.t (-> A.u (P.h bit)))")

    def test_paths_that_no_part_shows(self):
        for path in (
            "F.a", "G.go", "X.a", "Y.a", "X.go", "M.go", "P.h", "A.u", "P.more", "P.go", "A.a", "Q.a", "P.b", "On.a", "Z.z", "P.one",
        ):
            self.no("NoName", "kind " + path)
            self.says("run", "6")

    def test_hides_and_functions(self):
        self.says("load " + COUNT + ONES + "(main 0)", "taken")
        self.says("kind Ones.zero", "Ones.t")
        self.says("kind Ones.up", "(-> Ones.t Ones.t)")
        self.says("kind Ones.get", "(-> Ones.t num)")
        self.no("NoName", "kind Ones.t")

    def test_the_kind_is_the_face_s_and_not_the_body_s(self):
        self.says("load (face F () (val v (-> num num)) (val w (-> ?b (-> ?a ?b)))) (part P F (val v (fun x x)) (val w (fun x (fun y x)))) (main 0)", "taken")
        self.says("kind P.v", "(-> num num)")
        self.says("kind P.w", "(-> ?0 (-> ?1 ?0))")

    def test_a_part_called_like_a_giver(self):
        text = "(face F () (hide t 0) (val v t)) (maker M ((X F)) F (hide t () X.t) (val v X.v)) (part X F (hide t () num) (val v 1)) (apply Y M X) (main 0)"
        self.says("load " + text, "taken")
        self.says("kind X.v", "X.t")
        self.says("kind Y.v", "Y.t")


class Numbers(Rows):

    def test_numbers_below_nought(self):
        self.says("load (main (minus 3 10))", "taken")
        self.says("run", "-7")
        self.says("code", "-7")
        self.says("main", "3")

    def test_great_numbers(self):
        self.says(f"load (main (times {10 ** 29} (times -1 {10 ** 29})))", "taken")
        self.says("run", str(-10 ** 58))
        self.says("code", str(-10 ** 58))

    def test_300_calls_are_let(self):
        # 255 calls in main, 45 in the vals, and in the end one more.
        main = "(main (ring ((f x (if x (plus (call f (minus x 1)) (call f (minus x 1))) 0))) (call f 7)))"
        vals = "".join(f"(val v{letter} (plus (call g 0) (plus (call g 0) (call g 0))))" for letter in "abcdefghijklmno")
        self.says(f"load (face F ()) (part P F (val g (fun x 0)) {vals}) {main}", "taken")
        self.says("run", "0")
        self.says("code", "0")
        self.says(f"load (face F ()) (part P F (val g (fun x 0)) {vals} (val w (call g 0))) {main}", "taken")
        self.no("TooLong", "run")
        self.no("TooLong", "code")

    def test_rows_of_main_s_paper(self):
        for phrase, count in (("5", 1), ("(plus 1 2)", 3), ("(call (fun x x) (if 1 2 3))", 7), ("(let x (fun y y) (call x 4))", 6)):
            self.says(f"load (main {phrase})", "taken")
            self.says("main", str(count))
        self.says("load " + BIT + "(main (case On ((On) 1) ((Off) (ring ((f x x) (g x 1)) (call f 2)))))", "taken")
        self.says("main", "9")


class Beside(Case):

    def test_two_desks_beside_one_another(self):
        one, other = Desk(), Desk()
        self.assertEqual(one.say("load (main 1)"), "taken")
        self.refused("NoProgram", other.say, "run")
        self.assertEqual(other.say("load " + RICH), "taken")
        self.assertEqual((one.say("run"), other.say("run"), one.say("code"), other.say("code")), ("1", "6", "1", "6"))
        self.refused("NoName", one.say, "kind P.a")
        self.assertEqual(other.say("kind P.a"), "P.t")
        self.refused("NoText", one.say, "load (")
        self.assertEqual((one.say("run"), other.say("run")), ("1", "6"))

    def test_what_was_asked_is_told_the_same_again(self):
        desk = Desk()
        for name, (text, number) in TEXTS.items():
            desk.say("load " + text)
            ahead = [desk.say(row) for row in ("run", "code", "main")]
            for row in ("walk", "kind Zz.z", "load (main x)", "load )"):
                with self.assertRaises(FaceError):
                    desk.say(row)
            self.assertEqual([desk.say(row) for row in ("run", "code", "main")], ahead)
            self.assertEqual(ahead[0], str(NUMBERS[name]))


if __name__ == "__main__":
    unittest.main()
