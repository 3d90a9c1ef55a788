import itertools
import unittest

from facework.reading import read
from facework.scopes import look_over
from helping import Case

LIST = "(kind list (?a) (Nil) (Cons ?a (list ?a))) "
BIT = "(kind bit () (Off) (On)) "
PAIR = "(record pair (?a ?b) (one ?a) (two ?b)) "
COUNT = "(face Count () (hide t 0) (hide u 1) (hide w 2) (val zero t) (val up (-> t t))) "
ONES = "(part Ones Count (hide t () num) (val zero 0) (val more 1)) "
OVER = "(face Over ((X Count)) (hide s 0) (val get (-> X.t s))) "
BOTH = "(face Both ((X Count) (Y (Over X))) (hide s 0) (val go (-> X.t Y.s))) "
MAKE = "(maker Make ((X Count)) (Over X) (hide s () X.t) (val get (fun x x))) "
MAKES = "(maker Makes ((X Count) (Y (Over X))) (Both X Y) (val go Y.get)) "
TWO = "(apply Two Make Ones) "
ALL = LIST + BIT + PAIR + COUNT + ONES + OVER + BOTH + MAKE + MAKES + TWO


def whole(text):
    return text if "(main" in text else text + " (main 0)"


class Looked(Case):

    def let_by(self, *texts):
        for text in texts:
            with self.subTest(text):
                self.assertIsNone(look_over(read(whole(text))))

    def due(self, name, *texts):
        for text in texts:
            with self.subTest(text):
                self.refused(name, look_over, read(whole(text)))

    def phrases_let_by(self, ahead, *phrases):
        self.let_by(*[ahead + "(main " + phrase + ")" for phrase in phrases])

    def phrases_due(self, name, ahead, *phrases):
        self.due(name, *[ahead + "(main " + phrase + ")" for phrase in phrases])


class Naming(Looked):

    def test_what_the_other_tests_build_on(self):
        self.let_by(LIST, BIT, PAIR, COUNT, COUNT + ONES, ALL)

    def test_kinds_and_records_among_one_another(self):
        self.due("Twice", "(kind k () (A)) (kind k () (B))", "(record k () (x num)) (record k () (y num))")
        self.due("Twice", "(kind k () (A)) (record k () (x num))", "(record k () (x num)) (kind k () (A))")
        self.due("Twice", "(kind k () (A)) (kind l () (B)) (kind k (?a) (C ?a))")

    def test_tags_among_all_tags(self):
        self.due("Twice", "(kind k () (A) (A))", "(kind k () (A) (B) (A num))", "(kind k () (A)) (kind l () (B) (A))")

    def test_fields_among_all_fields(self):
        self.due("Twice", "(record r () (x num) (x num))", "(record r () (x num)) (record s () (y num) (x num))")

    def test_great_names_among_one_another(self):
        # Each names A; a second one of any sort is refused.
        named = {
            "face": "(face A ())",
            "part": "(part A F)",
            "maker": "(maker A ((Z F)) F)",
            "apply": "(apply A M P)",
        }
        ahead = "(face F ()) (part P F) (maker M ((Z F)) F)"
        for one, other in itertools.product(named.values(), repeat=2):
            self.due("Twice", ahead + one + other)
            self.let_by(ahead + one + other.replace(" A ", " B "))
        for text in named.values():
            for there in ("F", "P", "M"):
                self.due("Twice", ahead + text.replace(" A ", " " + there + " "))

    def test_givers(self):
        ahead = "(face F ()) (part P F) (maker M ((Z F)) F) (apply Q M P)"
        for there in ("F", "P", "M", "Q"):
            self.due("Twice", ahead + "(face A ((" + there + " F)))", ahead + "(maker A ((" + there + " F)) F)")
            self.due("Twice", ahead + "(face A ((X F) (" + there + " F)))")
            self.due("Twice", ahead + "(maker A ((X F) (" + there + " F)) F)")
        self.due("Twice", ahead + "(face A ((A F)))", ahead + "(maker A ((A F)) F)")
        self.due("Twice", ahead + "(face A ((X F) (A F)))", ahead + "(maker A ((X F) (A F)) F)")
        self.due("Twice", ahead + "(face A ((X F) (X F)))", ahead + "(maker A ((X F) (X F)) F)")

    def test_a_giver_is_there_in_its_declaration_alone(self):
        ahead = "(face F ()) (part P F)"
        self.let_by(ahead + "(face A ((X F))) (face B ((X F))) (maker C ((X F)) F) (maker D ((X F)) F)")
        self.let_by(ahead + "(face A ((X F))) (part X F)", ahead + "(face A ((X F))) (face X ())")
        self.let_by(ahead + "(maker A ((X F)) F) (maker X ((Y F)) F)", ahead + "(maker A ((X F)) F) (apply X A P)")
        self.let_by(ahead + "(maker A ((B F)) F) (face B ((C F))) (face C ())")

    def test_variables_of_one_declaration(self):
        self.due("Twice", "(kind k (?a ?a) (A))", "(kind k (?a ?b ?a) (A))", "(record r (?a ?a) (x num))")
        self.due("Twice", COUNT + "(part P Count (hide u (?a ?a) num))")
        self.due("Twice", COUNT + "(maker M ((X Count)) Count (hide u (?a ?a) num))")
        self.let_by("(kind k (?a) (A ?a)) (kind l (?a) (B ?a)) (record r (?a) (x ?a)) (record s (?a) (y ?a))")
        self.let_by(COUNT + "(part P Count (hide u (?a) ?a) (hide w (?a ?b) ?a)) (part Q Count (hide u (?a) ?a))")

    def test_hides_of_one_declaration(self):
        self.due("Twice", "(face F () (hide t 0) (hide t 0))", "(face F () (hide t 0) (val v t) (hide t 1))")
        self.due("Twice", "(face F ()) (part P F (hide t () num) (hide t () num))")
        self.due("Twice", "(face F ()) (maker M ((X F)) F (hide t () num) (val v 0) (hide t (?a) num))")
        self.let_by("(face F () (hide t 0)) (face G () (hide t 1)) (part P F (hide t () num)) (part Q F (hide t () num))")

    def test_a_hide_that_is_a_kind_s_or_record_s_name(self):
        for sort in ("(kind t () (A))", "(record t () (x num))"):
            self.due("Twice", sort + "(face F () (hide t 0))", sort + "(face F () (val v num) (hide u 0) (hide t 0))")
            self.due("Twice", "(face F ())" + sort + "(part P F (hide t () num))")
            self.due("Twice", "(face F ())" + sort + "(maker M ((X F)) F (hide t () num))")
            # Behind the hide there is no fault: a kind's name is looked for among kinds and records.
            self.let_by("(face F () (hide t 0))" + sort, "(face F ()) (part P F (hide t () num))" + sort)

    def test_vals_of_one_declaration(self):
        self.due("Twice", "(face F () (val v num) (val v num))", "(face F () (val v num) (hide t 0) (val v t))")
        self.due("Twice", "(face F ()) (part P F (val v 1) (val v 2))")
        self.due("Twice", "(face F ()) (maker M ((X F)) F (val v 1) (hide t () num) (val v 2))")
        self.due("Twice", "(face F () (val v num) (val w num) (val v num))", "(face F ()) (part P F (val v 1) (val w 2) (val v 3))")
        self.let_by("(face F () (val v num)) (face G () (val v num)) (part P F (val v 1)) (part Q G (val v 1))")

    def test_the_same_word_for_another_sort(self):
        self.let_by("(kind k () (A)) (face A ())", "(face A ()) (part B A) (kind k () (A) (B))", "(kind k () (K)) (face K ())")
        self.let_by("(kind k () (A)) (record r () (k num) (r num))", "(record r () (x num)) (kind x () (A))")
        self.let_by("(face F () (hide t 0) (val t t))", "(face F () (val t num) (hide t 0))")
        self.let_by("(face F ()) (part P F (hide t () num) (val t 0))", "(kind k () (A)) (face F () (val k k))")
        self.let_by("(kind k () (A)) (face F ()) (part P F (val k A)) (main (let k 1 k))")
        self.let_by("(record r () (x num)) (face F () (val x num) (hide x 0)) (part P F (val x 1) (hide x () num))")
        self.let_by("(kind a (?a) (A ?a)) (main (fun a (A a)))", "(kind k () (X)) (face F ()) (face G ((X F)))")

    def test_f_of_one_ring(self):
        self.phrases_due("Twice", "", "(ring ((f x x) (f x x)) 0)", "(ring ((f x x) (g x x) (f y y)) 0)")
        self.phrases_due("Twice", "", "(ring ((a x x) (f x x) (g x x) (f y y)) 0)")
        self.phrases_let_by("", "(ring ((f x x) (g x x)) 0)", "(ring ((f f f)) f)", "(ring ((f g g) (g f f)) 0)")
        self.phrases_let_by("", "(ring ((f x (ring ((f x x)) f))) (ring ((f x x)) f))", "(ring ((x x x) (y x x)) x)")

    def test_names_of_one_arm(self):
        self.phrases_due("Twice", LIST, "(case Nil ((Nil) 0) ((Cons x x) 0))")
        self.phrases_due("Twice", "(kind k () (A num num num num))", "(case (A 1 2 3 4) ((A a b c a) 0))")
        self.phrases_due("Twice", "(kind k () (A num num num num))", "(case (A 1 2 3 4) ((A a b c c) 0))")
        self.phrases_let_by("(kind k () (A num) (B num))", "(case (A 1) ((A x) x) ((B x) x))")
        self.phrases_let_by("(kind k () (A num) (B num))", "(case (A 1) ((A x) (case (A x) ((A x) x) ((B x) x))) ((B x) x))")

    def test_names_that_hide_others(self):
        self.phrases_let_by(
            LIST, "(fun x (fun x x))", "(let x 1 (let x x x))", "(fun x (ring ((x x x)) x))", "(fun x (ring ((f x x)) x))",
            "(let x 1 (case Nil ((Nil) x) ((Cons x y) x)))", "(fun f (ring ((f x (call f x))) (fun f f)))",
        )
        self.let_by("(face F ()) (part P F (val v 1) (val w (fun v (let v v (ring ((v v v)) v)))))")


class Using(Looked):

    def test_names_of_phrases(self):
        self.phrases_due("NoName", "", "x", "(fun x y)", "(call x 1)", "(call 1 x)", "(plus 1 x)", "(minus x 1)", "(times x 1)")
        self.phrases_due("NoName", "", "(less 1 x)", "(if x 1 2)", "(if 1 x 2)", "(if 1 2 x)", "(call (fun x x) x)")
        self.phrases_due("NoName", "(kind x () (X)) (record y () (z num))", "x", "y", "z")
        self.phrases_let_by("", "(fun x x)", "(fun x (fun y (plus x y)))", "(let x 1 (if x x x))")

    def test_x_of_let(self):
        self.phrases_due("NoName", "", "(let x x 1)", "(let x (plus 1 x) 1)", "(plus (let x 1 x) x)", "(let x (let y 1 y) y)")
        self.phrases_let_by("", "(let x 1 x)", "(let x 1 (let y x (plus x y)))", "(fun x (let x x x))")

    def test_f_and_x_of_a_ring(self):
        self.phrases_let_by("", "(ring ((f x (call f x))) (call f 1))", "(ring ((f x (call g x)) (g y (call f y))) (call g 1))")
        self.phrases_let_by("", "(ring ((a x b) (b x c) (c x d) (d x a)) d)")
        self.phrases_due("NoName", "", "(ring ((f x y) (g y y)) 0)", "(ring ((f x x) (g y x)) 0)", "(ring ((f x x)) x)")
        self.phrases_due("NoName", "", "(plus (ring ((f x x)) 1) f)", "(ring ((f x h)) 1)", "(ring ((f x x)) h)")

    def test_names_of_an_arm(self):
        ahead = "(kind k () (A num) (B num num))"
        self.phrases_let_by(ahead, "(case (A 1) ((A x) x) ((B y z) (plus y z)))")
        self.phrases_due("NoName", ahead, "(case (A 1) ((A x) y) ((B y z) 0))", "(case (A 1) ((A x) x) ((B y z) x))")
        self.phrases_due("NoName", ahead, "(case x ((A x) x) ((B y z) 0))", "(plus (case (A 1) ((A x) x) ((B y z) 0)) x)")

    def test_kinds_as_kinds(self):
        self.let_by("(kind k () (A k))", "(kind k () (A)) (kind l () (B k))", "(record r () (x r))", "(kind k () (A (-> k num)))")
        self.let_by("(record r () (x num)) (kind k () (A r))", "(kind k () (A)) (record r () (x k) (y r))")
        self.due("NoName", "(kind k () (A l)) (kind l () (B))", "(record r () (x k)) (kind k () (A))", "(kind k () (A x))")
        self.due("NoName", "(record r () (x x))", "(face F () (val v k)) (kind k () (A))", "(face F () (val v v))")
        self.due("NoName", "(face F () (hide u 0)) (part P F (hide u () k)) (kind k () (A))")
        self.let_by("(kind k () (A)) (face F () (hide u 0) (val v k)) (part P F (hide u () k))")

    def test_kinds_within_kinds(self):
        self.due("NoName", LIST + "(kind k () (A (list x)))", LIST + "(kind k () (A (-> num (list (-> x num)))))")
        self.due("NoName", LIST + "(kind k () (A (x num)))", "(kind k () (A num num num x))", "(record r () (x num) (y z))")

    def test_hides_of_a_face(self):
        self.let_by("(face F () (hide t 0) (val v t))", "(face F () (hide t 0) (hide u 1) (val v (u t)))")
        self.due("NoName", "(face F () (val v t) (hide t 0))", "(face F () (hide u 0) (val v t) (hide t 0) (val w t))")
        self.due("NoName", "(face F () (hide t 0)) (face G () (val v t))", "(face F () (hide t 0)) (kind k () (A t))")

    def test_hides_of_a_body_are_no_kinds(self):
        for head in ("(part P F ", "(maker M ((X F)) F "):
            ahead = "(face F () (hide t 0) (hide u 0))" + head
            self.due("NoName", ahead + "(hide t () num) (hide u () t))", ahead + "(hide t () t))")
            self.due("NoName", ahead + "(hide t () num) (hide u () (-> num t)))", ahead + "(hide u () t) (hide t () num))")

    def test_variables(self):
        self.let_by("(kind k (?a ?b) (A ?a ?b))", "(record r (?a) (x ?a))", COUNT + "(part P Count (hide w (?a ?b) (-> ?a ?b)))")
        self.due("NoName", "(kind k () (A ?a))", "(kind k (?a) (A ?b))", "(record r () (x ?a))", "(record r (?a) (x (-> ?a ?b)))")
        self.due("NoName", "(kind k (?a) (A ?a)) (kind l () (B ?a))", "(record r (?a) (x ?a)) (record s (?b) (y ?a))")
        for head in ("(part P Count ", "(maker M ((X Count)) Count "):
            self.due("NoName", COUNT + head + "(hide t () ?a))", COUNT + head + "(hide u (?a) ?b))")
            self.due("NoName", COUNT + head + "(hide u (?a) ?a) (hide t () ?a))")
        self.let_by("(face F () (val v ?a) (val w (-> ?a ?b)))", LIST + "(face F () (hide t 1) (val v (list (t ?c))))")

    def test_vals_of_a_body(self):
        for head in ("(part P F ", "(maker M ((X F)) F "):
            ahead = "(face F () (val v num) (val w num))" + head
            self.let_by(ahead + "(val v 1) (val w v))", ahead + "(val v 1) (hide t () num) (val w (fun x (plus v x))))")
            self.let_by(ahead + "(val v 1) (val w 2) (val x (plus v w)) (val y (plus v x)))")
            self.due("NoName", ahead + "(val v w) (val w 1))", ahead + "(val v v))", ahead + "(val v (fun x v)))")
            self.due("NoName", ahead + "(val v 1)) (main v)", ahead + "(val v w))", ahead + "(val v 1)) (part Q F (val w v))")
            self.due("NoName", ahead + "(hide t () num) (val v t))")

    def test_a_val_of_the_face_that_the_body_has_not(self):
        self.due("NoName", "(face F () (val v num) (val w num)) (part P F (val w v))")
        self.let_by("(face F () (val v num)) (part P F (val x 1) (val y x))")

    def test_tags_records_and_fields(self):
        self.phrases_due("NoName", "", "T", "(T 1)", "(fun x (T x))", "(make r 1)", "(pick x 1)", "(case 1 ((T) 0))")
        self.phrases_due("NoName", "(kind k () (A))", "B", "(case A ((B) 0))", "(case A ((A) 0) ((B) 0))", "(make k 1)", "(pick k A)")
        self.phrases_due("NoName", "(record r () (x num)) (face F ()) (part P F)", "(make x 1)", "(pick r 1)", "F", "P")
        self.phrases_let_by("(record r () (x num))", "(make r 1)", "(pick x (make r 1))", "(pick x 1)")
        self.phrases_let_by("(kind k () (A) (B num))", "A", "(B 1)", "(fun x (B x))", "(case A ((A) 0) ((B x) x))")
        self.due("NoName", "(face F ()) (part P F (val v T)) (kind k () (T))")
        self.due("NoName", "(face F ()) (part P F (val v (make r 1))) (record r () (x num))")
        self.due("NoName", "(face F ()) (part P F (val v (pick x 1))) (record r () (x num))")

    def test_paths_as_phrases(self):
        self.phrases_let_by(ALL, "Ones.zero", "Ones.up", "Two.get", "(call Two.get Ones.zero)")
        # A val that the face has not, a hide, and what has no face of its own.
        self.phrases_due("NoName", ALL, "Ones.more", "Ones.get", "Ones.t", "Two.zero", "Two.s", "Count.zero", "Make.get")
        self.phrases_due("NoName", ALL, "None.zero", "X.zero", "X.get", "Ones.none", "Cons.zero", "Over.get")
        self.let_by(ALL + "(part P Count (val v Ones.up))", ALL + "(maker M ((Z Count)) Count (val v Z.up))")
        self.let_by(ALL + "(maker M ((Z Count) (V (Over Z))) Count (val v V.get) (val w Z.zero))")
        self.due("NoName", ALL + "(maker M ((Z Count)) Count (val v Z.get))", ALL + "(maker M ((Z Count)) Count (val v Z.t))")

    def test_paths_as_kinds(self):
        for path, count in (("Ones.t", 0), ("Ones.u", 1), ("Ones.w", 2), ("Two.s", 0)):
            kind = "(" + path + " num" * count + ")" if count else path
            self.let_by(ALL + "(kind k () (A " + kind + "))", ALL + "(record r () (x (-> num " + kind + ")))")
            self.let_by(ALL + "(face G () (val v " + kind + "))", ALL + "(part P Count (hide t () " + kind + "))")
            self.let_by(ALL + "(face G ((Z Count)) (val v (-> Z.t " + kind + ")))")
        for path in ("Ones.zero", "Ones.s", "Two.get", "Two.t", "Count.t", "Make.s", "Make.t", "None.t", "X.t", "Over.s"):
            self.due("NoName", ALL + "(kind k () (A " + path + "))", ALL + "(record r () (x " + path + "))")
            self.due("NoName", ALL + "(face G () (val v " + path + "))", ALL + "(part P Count (hide t () " + path + "))")
        self.due("NoName", ALL + "(face G ((Z Count)) (val v Z.zero))", ALL + "(face G ((Z Count)) (val v Z.s))")
        self.let_by(ALL + "(maker M ((Z Count)) Count (hide t () (-> Z.t (Z.u num))))")
        self.due("NoName", ALL + "(maker M ((Z Count)) Count (hide t () Z.zero))")

    def test_a_declaration_s_own_name_within_it(self):
        face = "(face F () (hide t 0) (val v t))"
        self.due("NoName", face + "(part P F (val v P.v))", face + "(part P F (hide t () P.t))")
        self.due("NoName", face + "(face G ((X F))) (part P (G P))", "(face F ((X F)))", "(face F ((X G) (Y F))) (face G ())")
        self.due("NoName", face + "(maker M ((X F)) F (val v M.v))", face + "(part P F) (maker M ((X F)) M)")
        self.due("NoName", face + "(part Q F) (apply P P Q)", face + "(maker M ((X F)) F) (apply P M P)")
        self.due("NoName", "(face F () (hide t 0) (val v F.t))", face + "(part P P)")

    def test_what_comes_behind_its_use(self):
        face = "(face F () (hide t 0) (val v t))"
        self.due("NoName", face + "(part P F (val v Q.v)) (part Q F (val v 1))", "(part P F) (face F ())")
        self.due("NoName", face + "(part P F) (apply Q M P) (maker M ((X F)) F)", face + "(maker M ((X F)) F) (apply Q M P) (part P F)")
        self.due("NoName", "(face G ((X F))) (face F ())", "(maker M ((X F)) F) (face F ())")
        self.due("NoName", "(kind k () (A P.t))" + face + "(part P F)", "(face F ()) (maker M ((X F)) G) (face G ())")

    def test_faces_parts_and_givers_in_a_given_face(self):
        for there in ("Ones", "Make", "None", "X", "Cons"):
            self.due("NoName", ALL + "(part P " + there + ")", ALL + "(face G ((Z " + there + ")))")
            self.due("NoName", ALL + "(maker M ((Z " + there + ")) Count)", ALL + "(maker M ((Z Count)) " + there + ")")
            self.due("NoName", ALL + "(part P (" + there + " Ones))")
        for there in ("Count", "Make", "None", "X", "Over", "P"):
            self.due("NoName", ALL + "(part P (Over " + there + "))", ALL + "(face G ((Z (Over " + there + "))))")
            self.due("NoName", ALL + "(part P (Both Ones " + there + "))", ALL + "(part P (Both " + there + " Two))")
        self.let_by(ALL + "(part P (Over Ones))", ALL + "(part P (Both Ones Two))", ALL + "(part P (Both Two Two))")
        self.let_by(ALL + "(face G ((Z (Over Ones))))", ALL + "(face G ((Z Count) (V (Over Z))))")
        self.let_by(ALL + "(maker M ((Z Count)) (Over Z))", ALL + "(maker M ((Z Count) (V (Over Z))) (Both Z V))")
        self.due("NoName", ALL + "(face G ((Z (Over V)) (V Count)))", ALL + "(maker M ((Z (Over V)) (V Count)) Count)")

    def test_a_giver_is_there_behind_its_word(self):
        self.let_by(ALL + "(face G ((Z (Over Z))))", ALL + "(maker M ((Z (Over Z))) Count)")

    def test_givers_behind_their_declaration(self):
        self.due("NoName", COUNT + OVER + "(kind k () (A X.t))", COUNT + OVER + "(part P (Over X))")
        self.due("NoName", COUNT + OVER + MAKE + "(main X.zero)", COUNT + OVER + MAKE + "(part P Count (val zero X.zero))")
        self.due("NoName", COUNT + OVER + MAKE + "(apply P Make X)", COUNT + OVER + "(face G ((Y Count)) (val v X.t))")

    def test_makers_and_parts_of_an_apply(self):
        self.let_by(ALL + "(apply P Make Ones)", ALL + "(apply P Makes Ones Two)", ALL + "(apply P Make Two)")
        for there in ("Count", "Ones", "Two", "None", "X", "P"):
            self.due("NoName", ALL + "(apply P " + there + " Ones)")
        for there in ("Count", "Make", "None", "X", "P"):
            self.due("NoName", ALL + "(apply P Make " + there + ")", ALL + "(apply P Makes Ones " + there + ")")
            self.due("NoName", ALL + "(apply P Makes " + there + " Ones)")

    def test_an_applied_part_has_the_face_of_its_maker(self):
        ahead = ALL + "(part Three Count) (apply Deep Makes Three Two)"
        self.phrases_let_by(ahead, "Deep.go")
        self.phrases_due("NoName", ahead, "Deep.get", "Deep.zero", "Deep.s")
        self.let_by(ahead + "(kind k () (A Deep.s))")
        self.due("NoName", ahead + "(kind k () (A Deep.t))")


class Counting(Looked):

    def kind_places(self, kind):
        return (
            ALL + "(kind k () (A " + kind + "))", ALL + "(record r () (x " + kind + "))",
            ALL + "(face F () (val v " + kind + "))", ALL + "(part P Count (hide t () " + kind + "))",
            ALL + "(maker M ((Z Count)) Count (hide t () " + kind + "))", ALL + "(kind k () (A (-> num " + kind + ")))",
            ALL + "(kind k () (A (list " + kind + ")))",
        )

    def test_kinds_of_a_kind_a_record_and_a_path(self):
        for name, wanted in (("bit", 0), ("list", 1), ("pair", 2), ("Ones.t", 0), ("Ones.u", 1), ("Ones.w", 2), ("Two.s", 0)):
            for count in range(4):
                kind = "(" + name + " num" * count + ")" if count else name
                if count == wanted:
                    self.let_by(*self.kind_places(kind))
                else:
                    self.due("NoCount", *self.kind_places(kind))

    def test_kinds_of_a_kind_within_itself(self):
        self.due("NoCount", "(kind k (?a) (A k))", "(kind k () (A (k num)))", "(kind k (?a ?b) (A (k ?a)))", "(record r (?a) (x r))")
        self.due("NoCount", "(kind k (?a ?b ?c) (A (k ?a ?b)))", "(kind k (?a ?b) (A (k ?a ?b ?a)))")
        self.let_by("(kind k (?a ?b ?c) (A (k ?a ?b ?c)))")

    def test_kinds_of_a_face_s_hide(self):
        for wanted in range(3):
            for count in range(4):
                kind = "(t" + " num" * count + ")" if count else "t"
                text = "(face F () (hide t " + str(wanted) + ") (val v " + kind + "))"
                if count == wanted:
                    self.let_by(text)
                else:
                    self.due("NoCount", text)

    def test_kinds_of_a_giver_s_hide(self):
        for wanted, name in ((0, "t"), (1, "u"), (2, "w")):
            for count in range(4):
                kind = "(Z." + name + " num" * count + ")" if count else "Z." + name
                for text in ("(face F ((Z Count)) (val v " + kind + "))", "(maker M ((Z Count)) Count (hide x () " + kind + "))"):
                    if count == wanted:
                        self.let_by(COUNT + text)
                    else:
                        self.due("NoCount", COUNT + text)

    def test_phrases_of_a_tag_and_of_a_record(self):
        tags = "(kind k () (A) (B num) (C num num) (D num num num) (E num num num num)) "
        for wanted, tag in enumerate("ABCDE"):
            for count in range(5):
                phrase = "(" + tag + " 1" * count + ")" if count else tag
                if count == wanted:
                    self.phrases_let_by(tags, phrase, "(fun x " + phrase + ")")
                else:
                    self.phrases_due("NoCount", tags, phrase, "(fun x " + phrase + ")")
        for wanted in range(1, 5):
            record = "(record r () " + " ".join("(" + name + " num)" for name in "abcd"[:wanted]) + ") "
            for count in range(1, 5):
                if count == wanted:
                    self.phrases_let_by(record, "(make r" + " 1" * count + ")")
                else:
                    self.phrases_due("NoCount", record, "(make r" + " 1" * count + ")")

    def test_parts_of_a_face(self):
        for name, wanted in (("Count", 0), ("Over", 1), ("Both", 2)):
            for count in range(3):
                given = "(" + name + " Ones" * count + ")" if count else name
                for text in (
                    "(part P " + given + ")", "(face F ((Z " + given + ")))", "(maker M ((Z " + given + ")) Count)",
                    "(maker M ((Z Count)) " + given + ")", "(face F ((Z Count) (V " + given + ")))",
                ):
                    if count == wanted:
                        self.let_by(ALL + text)
                    else:
                        self.due("NoCount", ALL + text)

    def test_parts_of_a_maker(self):
        self.due("NoCount", ALL + "(apply P Make Ones Ones)", ALL + "(apply P Makes Ones)")
        self.let_by(ALL + "(apply P Make Ones)", ALL + "(apply P Makes Ones Ones)")

    def test_names_of_an_arm(self):
        tags = "(kind k () (A) (B num) (C num num num num)) "
        for wanted, tag in ((0, "A"), (1, "B"), (4, "C")):
            for count in range(5):
                rows = {"A": "(A)", "B": "(B x)", "C": "(C x y z w)"}
                rows[tag] = "(" + tag + "".join(" " + name for name in "xyzw"[:count]) + ")"
                for order in itertools.permutations("ABC"):
                    phrase = "(case A" + "".join(" (" + rows[one] + " 0)" for one in order) + ")"
                    if count == wanted:
                        self.phrases_let_by(tags, phrase)
                    else:
                        self.phrases_due("NoCount", tags, phrase)

    def test_a_tag_of_another_kind(self):
        ahead = "(kind k () (A) (B)) (kind l () (C) (D)) "
        self.phrases_let_by(ahead, "(case A ((A) 0) ((B) 0))", "(case A ((C) 0) ((D) 0))", "(case A ((B) 0) ((A) 0))")
        self.phrases_due("NoCount", ahead, "(case A ((A) 0) ((C) 0))", "(case A ((A) 0) ((B) 0) ((C) 0))", "(case A ((C) 0) ((B) 0))")
        self.phrases_due("NoCount", ahead, "(case A ((A) 0) ((C) 0) ((B) 0))")

    def test_arms_that_are_not_all_tags(self):
        ahead = "(kind k () (A) (B) (C)) (kind l () (D)) "
        self.phrases_due("NoCount", ahead, "(case A ((A) 0))", "(case A ((A) 0) ((B) 0))", "(case A ((C) 0) ((A) 0))")
        self.phrases_let_by(ahead, "(case A ((A) 0) ((B) 0) ((C) 0))", "(case A ((C) 0) ((A) 0) ((B) 0))", "(case D ((D) 0))")
        six = "(kind k () (A) (B) (C) (D) (E) (F)) "
        self.phrases_let_by(six, "(case A" + "".join(" ((" + tag + ") 0)" for tag in "FEDCBA") + ")")
        self.phrases_due("NoCount", six, "(case A" + "".join(" ((" + tag + ") 0)" for tag in "ABCDE") + ")")

    def test_an_arm_s_tag_twice(self):
        ahead = "(kind k () (A) (B num)) "
        self.phrases_due("Twice", ahead, "(case A ((A) 0) ((A) 0))", "(case A ((A) 0) ((B x) 0) ((A) 0))")
        self.phrases_due("Twice", ahead, "(case A ((B x) 0) ((A) 0) ((B x) 0))")
        self.phrases_let_by(ahead, "(case A ((A) (case A ((A) 0) ((B x) 0))) ((B x) (case A ((B x) 0) ((A) 0))))")
        self.phrases_let_by(ahead, "(case (case A ((A) A) ((B x) A)) ((A) 0) ((B x) x))")


class Order(Looked):

    def test_the_first_of_several_faults(self):
        # Declarations of their own with one fault each; the first one in the program refuses.
        faults = {
            "Twice": "(kind {n} (?a ?a) ({T}))",
            "NoName": "(record {n} () ({n} none))",
            "NoCount": "(kind {n} () ({T} (list num num)))",
        }
        for length in (1, 2, 3):
            for chosen in itertools.permutations(faults, length):
                text = LIST
                for count, name in enumerate(chosen):
                    text += faults[name].replace("{n}", "n" + "abc"[count]).replace("{T}", "T" + "abc"[count])
                self.due(chosen[0], text)

    def test_the_first_of_several_faults_within_phrases(self):
        ahead = LIST + PAIR
        faults = {
            "Twice": "(ring ((f x 0) (f x 0)) 0)",
            "NoName": "none",
            "NoCount": "(Cons 1)",
        }
        holders = (
            "(plus {} (plus {} {}))", "(if {} {} {})", "(call (call {} {}) {})", "(let x {} (let x {} {}))",
            "(ring ((f x {}) (g x {})) {})", "(case {} ((Nil) {}) ((Cons x y) {}))", "(make pair (make pair {} {}) {})",
            "(Cons (Cons {} {}) {})", "(fun x (minus (fun x {}) (pick one (less {} {}))))", "(times (times {} {}) {})",
        )
        for holder in holders:
            for chosen in itertools.product([None] + list(faults), repeat=3):
                wanted = [name for name in chosen if name]
                text = holder
                for name in chosen:
                    text = text.replace("{}", faults[name] if name else "1", 1)
                if wanted:
                    self.phrases_due(wanted[0], ahead, text)
                else:
                    self.phrases_let_by(ahead, text)

    def test_the_first_of_several_faults_within_kinds(self):
        faults = {"NoName": "none", "NoCount": "list"}
        holders = (
            "(kind k () (A {} {} {}))", "(kind k () (A {}) (B {}) (C {}))", "(kind k () (A (-> {} (-> {} {}))))",
            "(record r () (x {}) (y (list {})) (z {}))", "(face F () (val u {}) (val v (-> {} {})))",
            "(face F () (hide t 2) (val u (t (t {} {}) {})))",
        )
        for holder in holders:
            for chosen in itertools.product([None] + list(faults), repeat=3):
                wanted = [name for name in chosen if name]
                text = LIST + holder
                for name in chosen:
                    text = text.replace("{}", faults[name] if name else "num", 1)
                if wanted:
                    self.due(wanted[0], text)
                else:
                    self.let_by(text)

    def test_a_word_is_looked_at_ahead_of_what_stands_behind_it(self):
        self.due("NoCount", LIST + "(kind k () (A (list none num)))", COUNT + OVER + "(part P (Count None))")
        self.due("NoCount", COUNT + OVER + MAKE + "(apply P Make None None)", LIST + "(main (Cons none))")
        self.due("NoCount", PAIR + "(main (make pair none))", LIST + "(main (case Nil ((Nil x) none) ((Cons y y) 0)))")
        self.due("NoName", LIST + "(main (None (Cons 1)))", LIST + "(main (make none (Cons 1)))", LIST + "(main (pick none (Cons 1)))")
        self.due("NoName", LIST + "(kind k () (A (none list)))", COUNT + "(part P (None Count))", COUNT + "(apply P None None None)")
        self.due("Twice", LIST + "(kind list (?a ?a) (A none))", LIST + "(kind k (?a ?a) (A none))", LIST + "(kind k () (Nil none))")
        self.due("Twice", PAIR + "(record r () (one none))", COUNT + "(part Count None)", COUNT + "(maker Count ((X None)) None)")
        self.due("Twice", COUNT + "(face F ((F None)))", COUNT + "(apply Count None None)", COUNT + "(face Count ((X None)))")
        self.due("Twice", "(face F () (val v num) (val v none))", "(face F ()) (part P F (val v 1) (val v none))")
        self.due("Twice", "(face F ()) (part P F (hide t () num) (hide t (?a) none))", "(face F ()) (part P F (hide t (?a ?a) ?b))")

    def test_a_word_is_looked_at_behind_what_stands_ahead_of_it(self):
        self.due("NoName", "(kind k () (A none) (A))", "(record r () (x none) (x num))", "(face F ((X None) (X None)))")
        self.due("NoName", "(face F () (val v none) (val v none))", "(face F ()) (part P F (val v none) (val v 1))")
        self.due("NoName", "(main (ring ((f x none) (f x 0)) 0))", "(main (ring ((f x f) (g x none) (f x 0)) 0))")
        self.due("NoName", "(face F ()) (maker M ((X None) (X F)) F)", "(face F ()) (maker M ((X F)) None (hide t () num) (hide t () num))")
        self.due("NoName", "(face F ()) (face G ((X None))) (face F ())")
        self.due("NoCount", LIST + "(kind k () (A list) (A))", LIST + "(main (ring ((f x (Cons 1)) (f x 0)) 0))")
        self.due("NoCount", COUNT + OVER + "(face F ((X Over) (X Count)))")

    def test_two_faults_at_one_word(self):
        ahead = "(kind k () (A) (B num)) (kind l () (C)) "
        # Twice ahead of NoCount.
        self.phrases_due("Twice", ahead, "(case A ((A) 0) ((A x) 0))", "(case A ((B x) 0) ((B) 0))")
        # NoName ahead of NoCount: nothing is counted of what isn't there.
        self.phrases_due("NoName", ahead, "(None 1 2)", "(make none 1 2)", "(case A ((None x) 0))", "(case A ((A) 0) ((None x y) 0))")
        self.due("NoName", ahead + "(kind m () (D (none num)))", COUNT + "(part P (None P))", COUNT + "(apply P None P)")
        # A tag of another kind and with another number of names: NoCount either way.
        self.phrases_due("NoCount", ahead, "(case A ((A) 0) ((C x) none))")

    def test_case_is_looked_at_behind_all_that_is_in_it(self):
        ahead = "(kind k () (A) (B num)) "
        self.phrases_due("NoName", ahead, "(case none ((A) 0))", "(case A ((A) none))", "(case A ((B x) none))", "(case A ((None) 0))")
        self.phrases_due("Twice", ahead, "(case A ((A) (ring ((f x 0) (f x 0)) 0)))", "(case A ((A) 0) ((A) 0))")
        self.phrases_due("NoName", ahead, "(case A ((A) 0) ((B x) (plus x none)))", "(case A ((A) (plus 1 none)))")
        self.phrases_due("NoCount", ahead, "(plus (case A ((A) 0)) none)", "(plus (case A ((A) 0)) (ring ((f x 0) (f x 0)) 0))")
        self.phrases_due("NoName", ahead, "(plus none (case A ((A) 0)))")
        self.due("NoCount", ahead + "(face F ()) (part P F (val v (case A ((A) 0))) (val v 0))")

    def test_a_case_within_a_case(self):
        ahead = "(kind k () (A) (B num)) "
        # The inner case has too few arms; what stands behind it in the outer one comes later.
        self.phrases_due("NoCount", ahead, "(case (case A ((A) A)) ((A) none) ((B x) 0))", "(case A ((A) (case A ((A) 0))) ((B x) none))")
        self.phrases_due("NoCount", ahead, "(case A ((A) (case A ((A) 0))) ((A) 0))", "(case A ((A) 0) ((B x) (case A ((B x) 0))))")
        # The outer one has too few; all within it comes earlier.
        self.phrases_due("NoName", ahead, "(case (case A ((A) none) ((B x) A)) ((A) 0))", "(case A ((A) (case A ((A) 0) ((B x) none))))")
        self.phrases_due("Twice", ahead, "(case A ((A) (case A ((A) 0) ((A) 0))))", "(case A ((B x) (case A ((B x) 0) ((A) 0) ((A) 0))))")

    def test_declarations_from_the_left(self):
        self.due("NoName", "(face F ((X None))) (kind k (?a ?a) (A))", "(part P None) (kind k () (A) (A))")
        self.due("Twice", "(kind k () (A) (A)) (part P None)", "(face F ()) (face F ((X None)))")
        self.due("NoCount", LIST + "(kind k () (A list)) (main none)")
        self.due("NoName", LIST + "(kind k () (A none)) (main (Cons 1))")

    def test_within_a_face(self):
        self.due("Twice", COUNT + "(face F ((X Count) (X None)) (val v none))")
        self.due("NoName", COUNT + "(face F ((X None)) (hide t 0) (hide t 0))", COUNT + "(face F () (val v none) (hide t 0) (hide t 0))")
        self.due("NoCount", COUNT + "(face F () (hide t 0) (val v (t num)) (hide t 0))")

    def test_within_a_body(self):
        for head in ("(part P Count ", "(maker M ((Z Count)) Count "):
            self.due("NoName", COUNT + head + "(hide t () none) (hide t () num))", COUNT + head + "(val v none) (hide t (?a ?a) num))")
            self.due("Twice", COUNT + head + "(hide t (?a ?a) none) (val v none))", COUNT + head + "(val v 1) (val v none))")
            self.due("NoCount", COUNT + ONES + head + "(hide t () (Ones.t num)) (val v none))")


class Large(Looked):

    def test_deep_phrases(self):
        for depth in (100, 150):
            thing = "x"
            for level in range(depth):
                thing = ("fun", "x", thing)
            self.assertIsNone(look_over((("main", thing),)))
            thing = "none"
            for level in range(depth):
                thing = ("case", "A", (("A",), thing))
            self.refused("NoName", look_over, (("kind", "k", (), ("A",)), ("main", thing)))
            self.refused("NoCount", look_over, (("kind", "k", (), ("A",), ("B",)), ("main", ("fun", "none", thing))))

    def test_deep_kinds(self):
        kind = "num"
        for level in range(150):
            kind = ("->", ("list", kind), "num")
        ahead = (("kind", "list", ("?a",), ("Nil",)),)
        self.assertIsNone(look_over(ahead + (("kind", "k", (), ("A", kind)), ("main", 0))))
        self.refused("NoName", look_over, (("kind", "k", (), ("A", kind)), ("main", 0)))

    def test_wide_phrases(self):
        thing = 1
        for level in range(9):
            thing = ("let", "x", thing, ("plus", "x", thing))
        self.assertIsNone(look_over((("main", thing),)))
        self.refused("NoName", look_over, (("main", ("plus", thing, "none")),))

    def test_twenty_four_declarations_with_twenty_four_items(self):
        letters = "abcdefghijklmnopqrstuvwx"
        face = ("face", "F", ()) + tuple(("val", "v" + letter, ("->", "num", "num")) for letter in letters)
        phrase = ("fun", "x", "x")
        program = [face]
        for letter in letters[:22]:
            program.append(("part", "P" + letter, "F") + tuple(("val", "v" + one, phrase) for one in letters))
            phrase = ("fun", "x", ("call", "P" + letter + ".va", "x"))
        self.assertIsNone(look_over(tuple(program) + (("main", ("call", phrase, 1)),)))
        self.refused("NoName", look_over, tuple(program) + (("main", ("call", "Px.va", 1)),))


if __name__ == "__main__":
    unittest.main()
