"""[20], [21]: programs found, declaration by declaration."""

import unittest

from facework.reading import read
from facework.scopes import look_over
from facework.taking import takes_papers
from facework.whole import papers_of
from helping import Case, part_of
from programs import BIT, COUNT, LIST, ONES, PAIR, PROGRAMS, TWOS

# Faces without and with givers, and parts of each.
GROUND = (
    "(face C () (hide t 0)) (face D () (hide t 0)) (face E ((X C)) (hide u 0)) (face G ((X C) (Y (E X))) (val w num))"
    "(part Ca C (hide t () num)) (part Cb C (hide t () num)) (part Da D (hide t () num))"
    "(part Ea (E Ca) (hide u () num)) (part Eb (E Cb) (hide u () num))"
)


class Whole(Case):

    def taken(self, text):
        program = read(text)
        look_over(program)
        papers = papers_of(program)
        self.assertIs(type(papers), tuple)
        self.assertEqual(len(papers), len(program))
        self.assertIs(takes_papers(program, papers), True, text)
        return papers

    def refuses(self, name, text):
        program = read(text)
        look_over(program)
        self.refused(name, papers_of, program)
        self.assertEqual(program, read(text))

    def both(self, name, right, wrong):
        """Let by, and refused: programs that differ little."""
        self.taken(right)
        self.refuses(name, wrong)


class Sound(Whole):

    def test_a_part_s_face_with_the_part_that_is_wanted(self):
        self.taken(GROUND + "(part P (G Ca Ea) (val w 1)) (main 0)")
        self.taken(GROUND + "(part P (G Cb Eb) (val w 1)) (main 0)")

    def test_a_part_s_face_with_a_part_of_another_face(self):
        self.refuses("NoFace", GROUND + "(part P (E Da) (hide u () num)) (main 0)")
        self.refuses("NoFace", GROUND + "(part P (E Ea) (hide u () num)) (main 0)")
        self.refuses("NoFace", GROUND + "(part P (G Da Ea) (val w 1)) (main 0)")
        self.refuses("NoFace", GROUND + "(part P (G Ca Cb) (val w 1)) (main 0)")
        self.refuses("NoFace", GROUND + "(part P (G Ea Ca) (val w 1)) (main 0)")

    def test_a_part_s_face_over_other_parts(self):
        self.refuses("NoFace", GROUND + "(part P (G Ca Eb) (val w 1)) (main 0)")
        self.refuses("NoFace", GROUND + "(part P (G Cb Ea) (val w 1)) (main 0)")

    def test_givers_of_a_face(self):
        self.both("NoFace", GROUND + "(face H ((A C) (B (E A)))) (main 0)", GROUND + "(face H ((A D) (B (E A)))) (main 0)")
        self.both("NoFace", GROUND + "(face H ((A (E Cb)))) (main 0)", GROUND + "(face H ((A (E Da)))) (main 0)")
        self.both("NoFace", GROUND + "(face H ((A (E Ca)) (B (G Ca A)))) (main 0)",
                  GROUND + "(face H ((A (E Ca)) (B (G Cb A)))) (main 0)")
        self.refuses("NoFace", GROUND + "(face H ((A C) (B (G A Ea)))) (main 0)")

    def test_givers_of_a_maker(self):
        body = " (E Ca) (hide u () num)) (main 0)"
        self.both("NoFace", GROUND + "(maker M ((A C) (B (E A)))" + body, GROUND + "(maker M ((A D) (B (E A)))" + body)
        self.both("NoFace", GROUND + "(maker M ((A (E Ca)) (B (G Ca A)))" + body,
                  GROUND + "(maker M ((A (E Ca)) (B (G Cb A)))" + body)

    def test_a_maker_s_face_over_its_givers(self):
        right = GROUND + "(maker M ((A C) (B (E A))) (G A B) (val w 1)) (main 0)"
        self.both("NoFace", right, right.replace("(G A B)", "(G B A)"))
        self.refuses("NoFace", right.replace("(G A B)", "(G Ca B)"))
        self.refuses("NoFace", right.replace("(G A B)", "(G A Ea)"))
        self.taken(right.replace("(G A B)", "(G Ca Ea)"))

    def test_a_giver_in_its_own_face(self):
        self.refuses("NoFace", GROUND + "(face H ((A (E A)))) (main 0)")
        self.refuses("NoFace", GROUND + "(maker M ((A (E A))) C (hide t () num)) (main 0)")

    def test_earlier_givers_are_turned_to_their_parts(self):
        maker = "(maker M ((A C) (B (E A))) (G A B) (val w 1))"
        self.taken(GROUND + maker + "(apply P M Ca Ea) (main 0)")
        self.taken(GROUND + maker + "(apply P M Cb Eb) (main 0)")
        self.refuses("NoFace", GROUND + maker + "(apply P M Ca Eb) (main 0)")
        self.refuses("NoFace", GROUND + maker + "(apply P M Cb Ea) (main 0)")
        self.refuses("NoFace", GROUND + maker + "(apply P M Ea Ca) (main 0)")
        self.refuses("NoFace", GROUND + maker + "(apply P M Da Ea) (main 0)")

    def test_a_giver_that_wants_a_certain_part_s_face(self):
        maker = "(maker M ((A (E Ca))) C (hide t () num))"
        self.both("NoFace", GROUND + maker + "(apply P M Ea) (main 0)", GROUND + maker + "(apply P M Eb) (main 0)")

    def test_an_applied_part_has_its_maker_s_face(self):
        maker = "(maker M ((A C)) (E A) (hide u () num)) (apply Ma M Ca) (apply Mb M Cb)"
        self.taken(GROUND + maker + "(part P (G Ca Ma) (val w 1)) (main 0)")
        self.taken(GROUND + maker + "(part P (G Cb Mb) (val w 1)) (main 0)")
        self.refuses("NoFace", GROUND + maker + "(part P (G Ca Mb) (val w 1)) (main 0)")

    def test_parts_called_like_givers(self):
        # The giver X of E, the giver Y of G, and the maker's own ones are parts' names behind.
        maker = "(maker M ((U C) (V (E U))) (G U V) (val w 1))"
        parts = "(part Y C (hide t () num)) (part X (E Y) (hide u () num)) (part U C (hide t () num)) (part V (E U) (hide u () num))"
        self.taken(GROUND + maker + parts + "(apply P M Y X) (apply Q M U V) (part R (G Y X) (val w 1)) (main 0)")
        self.refuses("NoFace", GROUND + maker + parts + "(apply P M Y V) (main 0)")
        self.refuses("NoFace", GROUND + maker + parts + "(apply P M U X) (main 0)")
        self.refuses("NoFace", GROUND + maker + parts + "(part R (G U X) (val w 1)) (main 0)")
        # Turned one after another, a face with Y and X in the place of X and Y would come out otherwise.
        two = "(face H ((X C) (Y C) )) (face I ((X C) (Y (E X))))(part Y C (hide t () num)) (part X (E Y) (hide u () num))"
        self.taken(GROUND + two + "(part P (I Y X)) (main 0)")
        # Within the maker, a giver is no part of its name that stands behind.
        late = "(maker M ((U C)) (E U) (hide u () num)) (part U D (hide t () num)) (apply P M Ca) (main 0)"
        self.taken(GROUND + late)
        self.refuses("NoFace", GROUND + late.replace("M Ca", "M U"))


class Bodies(Whole):

    def test_hides_and_vals_that_are_there(self):
        face = "(face F () (hide t 0) (hide u 2) (val v num))"
        right = face + "(part P F (hide t () num) (hide u (?a ?b) num) (val v 1)) (main 0)"
        self.both("NoFace", right, right.replace("(hide t () num)", ""))
        self.refuses("NoFace", right.replace("(hide u (?a ?b) num)", ""))
        self.refuses("NoFace", right.replace("(hide u (?a ?b) num)", "(hide u (?a) num)"))
        self.refuses("NoFace", right.replace("(hide t () num)", "(hide t (?a) num)"))
        self.refuses("NoFace", right.replace("(val v 1)", ""))
        self.refuses("NoFace", right.replace("(val v 1)", "(val t 1)"))
        maker = face + "(maker M ((X F)) F (hide t () num) (hide u (?a ?b) num) (val v 1)) (main 0)"
        self.both("NoFace", maker, maker.replace("(hide t () num)", ""))
        self.refuses("NoFace", maker.replace("(val v 1)", ""))

    def test_more_hides_and_vals_than_the_face(self):
        papers = self.taken(
            "(face F () (hide t 0) (val v t)) (part P F (hide s (?a) ?a) (val w (fun x x)) (hide t () num)"
            " (val v (call w 1)) (val u (call w w))) (main 0)"
        )
        self.assertEqual([fit for paper, fit in papers[1]], [None, (), None])

    def test_a_word_may_be_a_hide_and_a_val(self):
        self.taken("(face F () (hide t 0) (val t t)) (part P F (hide t () num) (val t 1)) (main (let x P.t 0))")
        self.refuses("NoFace", "(face F () (hide t 0)) (part P F (val t 1)) (main 0)")
        self.refuses("NoFace", "(face F () (val t num)) (part P F (hide t () num)) (main 0)")

    def test_what_is_not_there_goes_ahead_of_a_val_without_a_kind(self):
        face = "(face F () (hide t 0) (val v num) (val w num))"
        for body in (
            "(val v (plus 1 (fun x x))) (val w 1)",
            "(val w (plus 1 (fun x x))) (hide t () num)",
            "(hide t () num) (val v (call 1 1))",
            "(hide t (?a) num) (val w (call 1 1)) (val v 1)",
            "(val v (call 1 1)) (val w 1) (hide t (?a) num)",
        ):
            self.refuses("NoFace", face + "(part P F " + body + ") (main 0)")
            self.refuses("NoFace", face + "(maker M ((X F)) F " + body + ") (main 0)")

    def test_a_face_that_is_not_sound_goes_ahead_of_a_val_without_a_kind(self):
        self.refuses("NoFace", GROUND + "(part P (G Ca Eb) (val w (call 1 1))) (main 0)")
        self.refuses("NoFace", GROUND + "(maker M ((A D) (B (E A))) C (hide t () num) (val w (call 1 1))) (main 0)")
        self.refuses("NoFace", GROUND + "(maker M ((A C)) (G A Ea) (val w (call 1 1))) (main 0)")

    def test_a_val_without_a_kind_goes_ahead_of_a_fit(self):
        face = "(face F () (val v num) (val w num))"
        for body in (
            "(val v (fun x x)) (val w (call 1 1))",
            "(val w (call 1 1)) (val v (fun x x))",
            "(val v 1) (val w 1) (val u (call 1 1))",
            "(val v (fun x x)) (val w 1) (val u (call 1 1))",
        ):
            self.refuses("NoKind", face + "(part P F " + body + ") (main 0)")
            self.refuses("NoKind", face + "(maker M ((X F)) F " + body + ") (main 0)")
        self.refuses("NoFace", face + "(part P F (val v 1) (val w (fun x x)) (val u 3)) (main 0)")

    def test_vals_ahead_have_all_their_variables(self):
        self.taken("(face F ()) (part P F (val id (fun x x)) (val a (call id 1)) (val b (call (call id id) a))) (main 0)")
        self.refuses("NoKind", "(face F ()) (part P F (val id (fun x (plus x 0))) (val b (call id id))) (main 0)")

    def test_the_kind_of_a_val_ahead_is_the_found_one(self):
        # The face asks for less, but within the body the val is as wide as it was found.
        self.taken("(face F () (val id (-> num num))) (part P F (val id (fun x x)) (val v (call id id))) (main 0)")
        self.refuses("NoKind", "(face F () (val id (-> num num))) (part P F (val id (fun x x))) (main (call (call P.id P.id) 0))")


class Fits(Whole):

    def fit(self, face, body):
        papers = self.taken(PAIR + LIST + "(face F () " + face + ") (part P F " + body + ") (main 0)")
        return papers[3][0][1]

    def no_fit(self, face, body):
        self.refuses("NoFace", PAIR + LIST + "(face F () " + face + ") (part P F " + body + ") (main 0)")

    def test_a_val_wider_than_the_face_asks(self):
        self.assertEqual(self.fit("(val v (-> num num))", "(val v (fun x x))"), ("num",))
        self.assertEqual(self.fit("(val v (-> (list ?b) (list ?b)))", "(val v (fun x x))"), (("list", "?b"),))

    def test_a_val_just_as_wide(self):
        self.assertEqual(self.fit("(val v (-> ?b ?b))", "(val v (fun x x))"), ("?b",))
        self.assertEqual(self.fit("(val v num)", "(val v 3)"), ())

    def test_a_val_that_is_narrower(self):
        self.no_fit("(val v (-> ?a ?a))", "(val v (fun x (plus x 1)))")
        self.no_fit("(val v (-> ?a ?b))", "(val v (fun x x))")
        self.no_fit("(val v ?a)", "(val v 3)")
        self.no_fit("(val v (-> ?a (list ?a)))", "(val v (fun x (Cons 1 Nil)))")
        self.no_fit("(val v num)", "(val v (fun x x))")
        self.no_fit("(val v (list num))", "(val v (make pair 1 2))")

    def test_kinds_in_the_order_of_the_val_s_variables(self):
        told = self.fit("(val v (-> (pair ?a ?b) (pair ?b (list ?c))))", "(val v (fun p (make pair (pick two p) Nil)))")
        self.assertEqual(told, ("?a", "?b", "?c"))
        told = self.fit("(val v (-> (list ?b) (-> num (-> ?b ?a))))", "(val v (ring ((f x (call f x))) f))")
        self.assertEqual(told, (("list", "?b"), part_of("(-> num (-> ?b ?a))")))
        told = self.fit("(val v (-> ?z (-> ?y (-> ?z ?y))))", "(val v (fun x (fun y (fun z y))))")
        self.assertEqual(told, ("?z", "?y", "?z"))

    def test_own_hides_are_turned_to_the_body_s_kinds(self):
        self.assertEqual(self.fit("(hide t 0) (val v (-> t t))", "(val v (fun x x)) (hide t () (list num))"), (("list", "num"),))
        self.assertEqual(self.fit("(hide t 0) (val v (-> t num))", "(hide t () num) (val v (fun x (plus x 1)))"), ())
        self.no_fit("(hide t 0) (val v (-> t num))", "(hide t () (list num)) (val v (fun x (plus x 1)))")

    def test_hides_turned_to_kinds_with_variables(self):
        told = self.fit("(hide h 1) (val v (-> (h ?c) (h (h num))))", "(hide h (?a) (pair ?a num)) (val v (ring ((f x (call f x))) f))")
        self.assertEqual(told, (("pair", "?c", "num"), ("pair", ("pair", "num", "num"), "num")))
        told = self.fit("(hide h 2) (val v (h ?x (list ?y)))", "(hide h (?b ?a) (-> ?a (pair ?b ?a))) (val v (ring ((f x (call f x))) f))")
        self.assertEqual(told, (("list", "?y"), ("pair", "?x", ("list", "?y"))))
        # The hide's own variables and those of the val are called alike.
        told = self.fit("(hide h 2) (val v (h ?b ?a))", "(hide h (?a ?b) (pair ?a (-> ?b ?a))) (val v (ring ((f x (call f x))) (call f 0)))")
        self.assertEqual(told, (part_of("(pair ?b (-> ?a ?b))"),))

    def test_a_hide_that_forgets_its_kinds(self):
        told = self.fit("(hide h 1) (val v (-> (h ?a) (h ?b)))", "(hide h (?x) num) (val v (fun x (plus x 1)))")
        self.assertEqual(told, ())

    def test_givers_are_turned(self):
        ground = COUNT + ONES + "(face F ((X Count)) (hide u 0) (val v (-> X.t u)))"
        papers = self.taken(ground + "(part P (F Ones) (hide u () Ones.t) (val v (fun x x))) (main 0)")
        self.assertEqual(papers[3][0][1], ("Ones.t",))
        self.both("NoFace", ground + "(part P (F Ones) (hide u () num) (val v Ones.get)) (main 0)",
                  ground + "(part P (F Ones) (hide u () num) (val v Ones.up)) (main 0)")

    def test_a_maker_s_fits(self):
        ground = COUNT + "(face F ((X Count)) (hide u 0) (val v (-> X.t u)))"
        papers = self.taken(ground + "(maker M ((Y Count)) (F Y) (hide u () Y.t) (val v (fun x x))) (main 0)")
        self.assertEqual(papers[2][0][1], ("Y.t",))
        self.refuses("NoFace", ground + "(maker M ((Y Count)) (F Y) (hide u () num) (val v Y.up) (val z 0)) (main 0)")


class Hidden(Whole):

    def test_what_a_hide_is_made_of_is_not_known_behind_its_part(self):
        ground = COUNT + ONES
        self.both("NoKind", ground + "(main (call Ones.get Ones.zero))", ground + "(main Ones.zero)")
        self.refuses("NoKind", ground + "(main (plus Ones.zero 1))")
        self.refuses("NoKind", ground + "(main (call Ones.get 0))")
        self.refuses("NoKind", ground + "(face N () (val n num)) (part P N (val n (call Ones.get 5))) (main 0)")
        self.refuses("NoFace", ground + "(face N () (val n num)) (part P N (val n Ones.zero)) (main 0)")

    def test_what_a_giver_hides_is_not_known_in_a_maker(self):
        ground = COUNT + ONES + "(face N () (val n num))"
        self.both("NoKind", ground + "(maker M ((X Count)) N (val n (call X.get X.zero))) (main 0)",
                  ground + "(maker M ((X Count)) N (val n (plus X.zero 1))) (main 0)")
        self.refuses("NoFace", ground + "(maker M ((X Count)) N (val n X.zero)) (main 0)")
        self.refuses("NoKind", ground + "(maker M ((X Count)) N (val n (call X.get Ones.zero))) (main 0)")

    def test_within_its_own_body_a_hide_is_what_it_is_made_of(self):
        self.taken(COUNT + "(part P Count (hide t () num) (val zero 0) (val up (fun x (plus x 1))) (val get (fun x (plus x zero)))) (main 0)")

    def test_hides_of_two_parts_are_unlike(self):
        ground = PAIR + COUNT + ONES + TWOS
        self.refuses("NoKind", ground + "(main (call Ones.get Twos.zero))")
        self.refuses("NoKind", COUNT + ONES + ONES.replace("Ones", "More") + "(main (call Ones.get More.zero))")

    def test_hides_of_two_applied_parts_are_unlike(self):
        ground = (
            COUNT + ONES + "(maker M ((X Count)) Count (hide t () X.t) (val zero X.zero) (val up X.up) (val get X.get))"
            "(apply A M Ones) (apply B M Ones)"
        )
        self.both("NoKind", ground + "(main (plus (call A.get A.zero) (call B.get B.zero)))", ground + "(main (call A.get B.zero))")
        self.refuses("NoKind", ground + "(main (call A.get Ones.zero))")
        self.refuses("NoKind", ground + "(main (call Ones.get A.zero))")


class Mains(Whole):

    def test_a_main_is_a_number(self):
        self.both("NoKind", "(main 5)", "(main (fun x x))")
        self.refuses("NoKind", BIT + "(main On)")

    def test_a_main_without_a_kind(self):
        self.refuses("NoKind", "(main (call 1 1))")
        self.refuses("NoKind", "(main (let x (fun y (call y y)) 1))")

    def test_a_main_s_rows_are_those_with_num(self):
        papers = self.taken("(main (ring ((f x (call f x))) (call f 0)))")
        self.assertEqual(papers[0][0], ("num", (("?0", "?1"), (("->", "?0", "?1"),))))
        self.assertEqual(papers[0][-2:], [(("->", "num", "num"), ("num", "num")), ("num", ())])

    def test_papers_of_other_declarations_are_of_nothing(self):
        papers = self.taken(PAIR + LIST + COUNT + ONES + "(maker M ((X Count)) Count (hide t () num) (val zero 1)"
                            " (val up (fun x x)) (val get (fun x 2))) (apply P M Ones) (main 0)")
        self.assertEqual((papers[0], papers[1], papers[2], papers[5]), ((), (), (), ()))
        self.assertEqual(papers[4], (
            ([("num", ())], ()),
            ([(("->", "?0", "?0"), ()), ("?0", ())], ("num",)),
            ([(("->", "?0", "num"), ()), ("num", ())], ("num",)),
        ))
        self.assertEqual(papers[6], [("num", ())])

    def test_main_s_paper_is_a_list_and_the_vals_papers_too(self):
        papers = self.taken(COUNT + ONES + "(main 0)")
        self.assertIs(type(papers[2]), list)
        self.assertEqual([type(paper) for paper, fit in papers[1]], [list] * 3)


class FirstDue(Whole):

    def test_two_faults_in_two_declarations(self):
        no_kind = "(part Ka Bare (val v (call 1 1)))"
        no_face = "(part Fa Num)"
        no_fit = "(part Fb Num (val n (fun x x)))"
        no_giver = "(face Fc ((X Num) (Y (Over Na))))"
        no_apply = "(apply Fd Ma Ba)"
        no_maker = "(maker Ke ((X Num)) Bare (val v (plus X.n X.n)) (val w (call v v)))"
        ground = (
            "(face Bare ()) (face Num () (val n num)) (face Over ((X Bare))) (part Ba Bare) (part Na Num (val n 0))"
            "(maker Ma ((X Num)) Bare)"
        )
        faults = {no_kind: "NoKind", no_face: "NoFace", no_fit: "NoFace", no_giver: "NoFace", no_apply: "NoFace", no_maker: "NoKind"}
        self.taken(ground + "(main 0)")
        for one, name in faults.items():
            self.refuses(name, ground + one + "(main 0)")
            self.refuses(name, ground + one + "(main (call 1 1))")
            for other in faults:
                if one != other:
                    self.refuses(name, ground + one + other + "(main 0)")

    def test_what_comes_ahead_of_main(self):
        self.refuses("NoFace", "(face F () (val v num)) (part P F) (main (call 1 1))")


class Steady(Whole):

    def test_told_papers_are_the_asker_s_own(self):
        program = PROGRAMS["parts"]
        told = papers_of(program)
        kept = papers_of(program)
        told[-1].clear()
        told[3][0][0].append("more")
        self.assertEqual(papers_of(program), kept)
        self.assertNotEqual(told, kept)

    def test_refusals_change_nothing(self):
        kept = {name: papers_of(program) for name, program in PROGRAMS.items()}
        for name, program in PROGRAMS.items():
            self.refuses("NoKind", "(main (call 1 1))")
            self.refuses("NoFace", "(face F () (val v num)) (part P F) (main 0)")
            self.assertEqual(papers_of(program), kept[name])

    def test_deep_phrases_and_kinds(self):
        deep = "x"
        for turn in range(95):
            deep = ("plus", deep, 1) if turn % 2 else ("let", "x", deep, "x")
        kind = "t"
        for turn in range(95):
            kind = ("->", "t", kind)
        program = (
            ("face", "F", (), ("hide", "t", 0), ("val", "v", ("->", "t", "t")), ("val", "far", kind)),
            ("part", "P", "F", ("hide", "t", (), "num"), ("val", "v", ("fun", "x", deep)), ("val", "far", ("ring", (("f", "x", ("call", "f", "x")),), "f"))),
            ("main", 0),
        )
        papers = papers_of(program)
        self.assertEqual(papers[1][0][1], ())
        self.assertEqual(papers[1][1][1][0], "num")
        self.assertIs(takes_papers(program, papers), True)


if __name__ == "__main__":
    unittest.main()
