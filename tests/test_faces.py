"""[12], [19]: the faces of parts, and what parts show."""

import unittest

from facework.faces import Faces
from facework.reading import read
from facework.scopes import look_over
from helping import part_of

# A face of each sort, parts of them, makers over them, and parts that these made.
TEXT = (
    "(kind list (?a) (Nil) (Cons ?a (list ?a)))"
    "(record pair (?a ?b) (one ?a) (two ?b))"
    "(face Plain () (val n num) (val id (-> ?a ?a)))"
    "(face Set () (hide t 0) (hide of 1) (hide both 2)"
    " (val zero t) (val none (of ?a)) (val two (-> ?b (-> ?a (both ?a ?b))))"
    " (val t (-> t (-> (of t) (both t (of num))))) (val same (-> ?a (-> ?b (-> ?a (list ?b))))))"
    "(part Pa Plain (val n 1) (val id (fun x x)))"
    "(part Sa Set (hide t () num) (hide of (?a) (list ?a)) (hide both (?a ?b) (pair ?a ?b)) (val zero 0) (val none Nil)"
    " (val two (fun x (fun y (make pair y x)))) (val t (fun x (fun y (make pair x Nil))))"
    " (val same (fun x (fun y (fun z (Cons y Nil))))))"
    "(face One ((X Set)) (hide u 1) (val in (-> X.t (u X.t))) (val far (-> (X.of Sa.t) (-> (X.both X.t ?c) Sa.t))))"
    "(face Two ((X Set) (Y (One X))) (hide u 0) (val mix (-> X.t (-> (Y.u X.t) (-> u (list (Y.u num)))))))"
    "(part Oa (One Sa) (hide u (?a) (list ?a)) (val in (fun x (Cons x Nil))) (val far (fun x (fun y Sa.zero))))"
    "(maker Mb ((X Set)) (One X) (hide u (?a) ?a) (val in (fun x x)) (val far (fun x (fun y Sa.zero))))"
    "(maker Mc ((X Set) (Y (One X))) (Two X Y) (hide u () num) (val mix (fun x (fun y (fun z Nil)))))"
    "(maker Md ((Z Set)) Set (hide t () Z.t) (hide of (?b) (Z.of ?b)) (hide both (?x ?y) (Z.both ?x ?y)) (val zero Z.zero)"
    " (val none Z.none) (val two Z.two) (val t Z.t) (val same Z.same))"
    "(maker Me ((X Set) (Y Set)) (One Y) (hide u (?a) ?a) (val in (fun x x)) (val far (fun x (fun y Sa.zero))))"
    "(apply Ob Mb Sa)"
    "(apply Sd Md Sa)"
    "(apply Se Md Sd)"
    "(apply Of Mb Se)"
    "(apply Tw Mc Se Of)"
    # Called like givers of the makers and faces ahead of them.
    "(apply Y Md Sa)"
    "(apply X Md Sa)"
    "(apply Og Me Y X)"
    "(apply Oh Mb Y)"
    "(apply Ty Mc Y Oh)"
    "(main 0)"
)
PROGRAM = read(TEXT)


def scheme(own, kind):
    return (tuple(own.split()), part_of(kind))


def set_of(part):
    """What a part of the face Set shows."""
    return {
        part + ".zero": scheme("", f"{part}.t"),
        part + ".none": scheme("?a", f"({part}.of ?a)"),
        part + ".two": scheme("?b ?a", f"(-> ?b (-> ?a ({part}.both ?a ?b)))"),
        part + ".t": scheme("", f"(-> {part}.t (-> ({part}.of {part}.t) ({part}.both {part}.t ({part}.of num))))"),
        part + ".same": scheme("?a ?b", "(-> ?a (-> ?b (-> ?a (list ?b))))"),
    }


def one_of(part, given):
    return {
        part + ".in": scheme("", f"(-> {given}.t ({part}.u {given}.t))"),
        part + ".far": scheme("?c", f"(-> ({given}.of Sa.t) (-> ({given}.both {given}.t ?c) Sa.t))"),
    }


def two_of(part, x, y):
    return {part + ".mix": scheme("", f"(-> {x}.t (-> ({y}.u {x}.t) (-> {part}.u (list ({y}.u num)))))")}


class FacesOfParts(unittest.TestCase):

    def setUp(self):
        look_over(PROGRAM)
        self.faces = Faces(PROGRAM)

    def test_the_face_of_a_part_is_its_own(self):
        self.assertEqual(self.faces.face_of("Pa"), ("Plain",))
        self.assertEqual(self.faces.face_of("Sa"), ("Set",))
        self.assertEqual(self.faces.face_of("Oa"), ("One", "Sa"))

    def test_the_face_of_an_applied_part_is_the_maker_s_with_its_parts(self):
        wanted = {
            "Ob": ("One", "Sa"), "Sd": ("Set",), "Se": ("Set",), "Of": ("One", "Se"), "Tw": ("Two", "Se", "Of"),
            "Y": ("Set",), "X": ("Set",), "Oh": ("One", "Y"), "Ty": ("Two", "Y", "Oh"),
        }
        self.assertEqual({part: self.faces.face_of(part) for part in wanted}, wanted)

    def test_parts_stand_for_givers_all_at_once(self):
        # X is Y and Y is X here.
        self.assertEqual(self.faces.face_of("Og"), ("One", "X"))

    def test_faces_are_tuples(self):
        for part in ("Pa", "Oa", "Ob", "Tw"):
            self.assertIs(type(self.faces.face_of(part)), tuple)


class Shown(unittest.TestCase):

    def setUp(self):
        self.faces = Faces(PROGRAM)

    def test_faces_without_givers(self):
        self.assertEqual(self.faces.shows("Pa"), {"Pa.n": scheme("", "num"), "Pa.id": scheme("?a", "(-> ?a ?a)")})
        self.assertEqual(self.faces.shows("Sa"), set_of("Sa"))

    def test_a_face_of_nothing(self):
        faces = Faces(read("(face Bare ()) (part P Bare (val v 1)) (main 0)"))
        self.assertEqual((faces.face_of("P"), faces.shows("P")), (("Bare",), {}))

    def test_a_face_with_one_giver(self):
        self.assertEqual(self.faces.shows("Oa"), one_of("Oa", "Sa"))

    def test_applied_parts(self):
        self.assertEqual(self.faces.shows("Ob"), one_of("Ob", "Sa"))
        self.assertEqual(self.faces.shows("Sd"), set_of("Sd"))

    def test_parts_made_over_applied_ones(self):
        self.assertEqual(self.faces.shows("Se"), set_of("Se"))
        self.assertEqual(self.faces.shows("Of"), one_of("Of", "Se"))
        self.assertEqual(self.faces.shows("Tw"), two_of("Tw", "Se", "Of"))

    def test_parts_called_like_givers(self):
        self.assertEqual(self.faces.shows("Y"), set_of("Y"))
        self.assertEqual(self.faces.shows("X"), set_of("X"))
        self.assertEqual(self.faces.shows("Og"), one_of("Og", "X"))
        self.assertEqual(self.faces.shows("Oh"), one_of("Oh", "Y"))
        self.assertEqual(self.faces.shows("Ty"), two_of("Ty", "Y", "Oh"))

    def test_givers_paths_are_turned_all_at_once(self):
        program = read(
            "(face C () (hide t 0)) (face D ((X C) (Y C)) (val v (-> X.t (-> Y.t X.t))))"
            "(part Y C (hide t () num)) (part X C (hide t () num)) (part P (D Y X) (val v (fun a (fun b a)))) (main 0)"
        )
        look_over(program)
        self.assertEqual(Faces(program).shows("P"), {"P.v": scheme("", "(-> Y.t (-> X.t Y.t))")})

    def test_vals_are_shown_in_the_order_of_the_face(self):
        self.assertEqual(list(self.faces.shows("Sa")), ["Sa.zero", "Sa.none", "Sa.two", "Sa.t", "Sa.same"])

    def test_more_in_the_body_is_not_shown(self):
        program = read("(face F () (val v num)) (part P F (hide t () num) (val w 1) (val v 2)) (main P.v)")
        self.assertEqual(Faces(program).shows("P"), {"P.v": ((), "num")})

    def test_a_kind_behind_the_face_may_be_called_like_its_hide(self):
        program = read("(face F () (hide t 0) (val v t)) (kind t () (T)) (maker M ((X F)) F) (main 0)")
        look_over(program)
        program = program[:-1] + read("(part P F) (main 0)")
        self.assertEqual(Faces(program).shows("P"), {"P.v": ((), "P.t")})

    def test_deep_kinds(self):
        deep = "?a"
        wanted = "?a"
        for turn in range(90):
            deep = ("h", deep) if turn % 3 else ("->", "t", deep)
            wanted = ("P.h", wanted) if turn % 3 else ("->", "P.t", wanted)
        program = (
            ("face", "F", (), ("hide", "t", 0), ("hide", "h", 1), ("val", "v", deep)), ("part", "P", "F"), ("main", 0),
        )
        self.assertEqual(Faces(program).shows("P"), {"P.v": (("?a",), wanted)})


class Steady(unittest.TestCase):

    def test_a_told_dict_is_the_asker_s_own(self):
        faces = Faces(PROGRAM)
        told = faces.shows("Sa")
        told["Sa.zero"] = "another"
        told.clear()
        self.assertEqual(faces.shows("Sa"), set_of("Sa"))
        self.assertIsNot(faces.shows("Sa"), faces.shows("Sa"))

    def test_two_faces_beside_one_another(self):
        one = Faces(read("(face F () (val v num)) (part P F (val v 1)) (main 0)"))
        other = Faces(read("(face G () (hide t 0) (val w t)) (part P G (hide t () num) (val w 1)) (main 0)"))
        for turn in range(2):
            self.assertEqual((one.face_of("P"), other.face_of("P")), (("F",), ("G",)))
            self.assertEqual(one.shows("P"), {"P.v": ((), "num")})
            self.assertEqual(other.shows("P"), {"P.w": ((), "P.t")})

    def test_the_program_stays(self):
        Faces(PROGRAM).shows("Tw")
        self.assertEqual(PROGRAM, read(TEXT))


if __name__ == "__main__":
    unittest.main()
