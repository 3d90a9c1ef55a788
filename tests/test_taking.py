"""[22]: papers of a program looked at."""

import copy
import random
import unittest

from changing import changed_papers
from facework.reading import read
from facework.scopes import look_over
from facework.taking import takes_papers
from facework.whole import papers_of
from helping import thing_with
from plain_whole import plain_takes_papers
from programs import COUNT, LIST, ONES, PAIR, PROGRAMS

TEXT = (
    LIST + PAIR +
    "(face F () (hide h 1) (val id (-> ?a ?a)) (val pack (-> ?a (h ?a))) (val n num))"
    "(part P F (hide h (?x) (pair ?x num)) (val id (fun x x)) (val more (fun x (fun y x))) (val pack (fun x (make pair x 0)))"
    " (val n (call id (call (call more 1) id))))"
    "(maker M ((X F)) F (hide h (?y) (X.h (list ?y))) (val id X.id) (val pack (fun x (call X.pack (Cons x Nil)))) (val n X.n))"
    "(apply Q M P)"
    "(main (plus (call Q.id P.n) (call (call P.id Q.id) Q.n)))"
)
PROGRAM = read(TEXT)
PAPERS = papers_of(PROGRAM)
# Where they are among the papers.
ID, MORE, PACK, N = (3, 0), (3, 1), (3, 2), (3, 3)


class Taking(unittest.TestCase):

    def takes(self, papers, program=PROGRAM):
        self.assertIs(takes_papers(program, papers), True)

    def takes_not(self, papers, program=PROGRAM):
        self.assertIs(takes_papers(program, papers), False)

    def with_at(self, path, new):
        return thing_with(PAPERS, path, new)


class Told(Taking):

    def test_told_papers_are_taken(self):
        look_over(PROGRAM)
        self.takes(PAPERS)
        for name, program in PROGRAMS.items():
            with self.subTest(name):
                self.takes(papers_of(program), program)

    def test_another_program_s_papers_are_not(self):
        for name, program in PROGRAMS.items():
            with self.subTest(name):
                self.takes_not(PAPERS, program)
                self.takes_not(papers_of(program))

    def test_one_program_s_papers_for_one_that_differs_little(self):
        text = COUNT + ONES + "(main 5)"
        papers = papers_of(read(text))
        self.takes(papers, read(text))
        self.takes(papers, read(text.replace("(val zero 0)", "(val zero 7)")))
        self.takes_not(papers, read(text.replace("(hide t () num)", "(hide t (?a) num)")))
        self.takes_not(papers, read(text.replace("(hide t () num)", "")))
        self.takes_not(papers, read(text.replace("(val zero 0)", "(val nought 0)")))
        self.takes_not(papers, read(text.replace("(hide t 0)", "(hide t 0) (val more t)")))
        self.takes_not(papers, read(text.replace("(val zero t)", "(val zero num) (val get t)").replace(" (val get (-> t num))", "")))
        self.takes_not(papers, read(text.replace("(val zero t)", "(val zero (-> t t))")))

    def test_faces_that_are_not_sound(self):
        ground = "(face C ()) (face D ()) (face E ((X C))) (part Ca C) (part Da D) (maker M ((X C)) (E X))"
        for wrong, right in (
            ("(face H ((X D) (Y (E X))))", "(face H ((X C) (Y (E X))))"),
            ("(apply P M Da)", "(apply P M Ca)"),
        ):
            self.takes(((),) * 7 + ([("num", ())],), read(ground + right + "(main 0)"))
            self.takes_not(((),) * 7 + ([("num", ())],), read(ground + wrong + "(main 0)"))
        for wrong, right in (
            ("(part P (E Da) (val v 0))", "(part P (E Ca) (val v 0))"),
            ("(maker N ((X D) (Y (E X))) C (val v 0))", "(maker N ((X C) (Y (E X))) C (val v 0))"),
            ("(maker N ((X D)) (E X) (val v 0))", "(maker N ((X C)) (E X) (val v 0))"),
        ):
            papers = ((),) * 6 + ((([("num", ())], None),), [("num", ())])
            self.takes(papers, read(ground + right + "(main 0)"))
            self.takes_not(papers, read(ground + wrong + "(main 0)"))


class Others(Taking):

    def test_variables_called_otherwise(self):
        # Within a body the vals behind it have one kind for each variable, however these are called.
        self.takes(self.with_at(ID, ([(("->", "?zz", "?zz"), ()), ("?zz", ())], ("?a",))))
        self.takes(self.with_at(ID, ([(("->", "?a", "?a"), ()), ("?a", ())], ("?a",))))
        self.takes(self.with_at(PACK, ([(("->", "?a", ("pair", "?a", "num")), ()), (("pair", "?a", "num"), ()), ("?a", ()),
                                        ("num", ())], ("?a",))))
        self.takes_not(self.with_at(ID, ([(("->", "?zz", "?zz"), ()), ("?zz", ())], ("?zz",))))

    def test_a_narrower_val_that_the_face_asks_for_wide(self):
        self.takes_not(self.with_at(ID, ([(("->", "num", "num"), ()), ("num", ())], ())))

    def test_narrower_vals_where_the_face_asks_for_no_more(self):
        program = read("(face F () (val v (-> num num)) (val w num)) (part P F (val v (fun x x)) (val w (call v 1))) (main 0)")
        main = [("num", ())]
        call = lambda given: ([("num", ()), (("->", "num", "num"), given), ("num", ())], ())
        wide = ([(("->", "?0", "?0"), ()), ("?0", ())], ("num",))
        narrow = ([(("->", "num", "num"), ()), ("num", ())], ())
        self.takes(((), (wide, call(("num",))), main), program)
        self.takes(((), (narrow, call(())), main), program)
        self.takes_not(((), (narrow, call(("num",))), main), program)
        self.takes_not(((), (wide, call(())), main), program)
        self.takes_not(((), (narrow[:1] + (("num",),), call(())), main), program)
        self.takes_not(((), (wide[:1] + ((),), call(("num",))), main), program)

    def test_a_val_that_the_face_has_not_may_be_narrower(self):
        rows = copy.deepcopy(PAPERS[3][1][0])
        narrow = ("->", "num", ("->", ("->", "?q", "?q"), "num"))
        rows[0], rows[1], rows[2] = (narrow, ()), (narrow[2], ()), ("num", ())
        use = copy.deepcopy(PAPERS[3][3][0])
        more = [place for place, row in enumerate(use) if len(row[1]) == 2]
        self.assertEqual(len(more), 1)
        kind = use[more[0]][0]
        use[more[0]] = (kind, (kind[2][1][1],))
        self.takes(thing_with(self.with_at(MORE, (rows, None)), N, (use, ())))
        self.takes_not(self.with_at(MORE, (rows, None)))

    def test_its_scheme_is_all_variables_of_the_kind_in_their_order(self):
        text = "(face F ()) (part P F (val k (fun x (fun y x))) (val v (call k 1))) (main 0)"
        papers = papers_of(read(text))
        self.takes(papers, read(text))
        row = papers[1][1][0][1]
        self.assertEqual(row[1], ("num", "?0"))
        self.takes_not(thing_with(papers, (1, 1), (papers[1][1][0][:1] + [(row[0], ("?0", "num"))] + papers[1][1][0][2:], None)), read(text))

    def test_a_main_of_another_kind(self):
        program = read("(main (ring ((f x (call f x))) (call f 0)))")
        papers = papers_of(program)
        self.takes(papers, program)
        rows = papers[0]
        for kind in ("?0", "?9", ("->", "num", "num")):
            other = [(kind, rows[0][1])] + rows[1:-3] + [(kind, ()), (("->", "num", kind), ("num", kind)), ("num", ())]
            self.takes_not((other,), program)
        other = [("num", rows[0][1])] + rows[1:-3] + [("num", ()), (("->", "num", "num"), ("num", "num")), ("num", ())]
        self.takes((other,), program)

    def test_a_main_s_other_variables(self):
        program = read("(main (let x (fun y y) 5))")
        self.takes(([("num", ("?0",)), (("->", "?0", "?0"), ()), ("?0", ()), ("num", ())],), program)
        self.takes(([("num", ("?a",)), (("->", "?a", "?a"), ()), ("?a", ()), ("num", ())],), program)
        self.takes(([("num", ()), (("->", "num", "num"), ()), ("num", ()), ("num", ())],), program)


class Fits(Taking):

    def fit(self, path, fit):
        return self.with_at(path + (1,), fit)

    def test_a_fit_of_another_kind(self):
        for fit in (("?b",), ("num",), ("?0",), (("list", "?a"),), ("?",), ("",), (5,), (None,), ((),), (("?a",),), (["?a"],)):
            self.takes_not(self.fit(ID, fit))

    def test_a_fit_too_long_or_too_short(self):
        for fit in ((), ("?a", "?a"), ("?a", "num")):
            self.takes_not(self.fit(ID, fit))
        self.takes_not(self.fit(N, ("num",)))

    def test_none_where_one_is_due_and_one_where_none_is(self):
        self.takes_not(self.fit(ID, None))
        self.takes_not(self.fit(N, None))
        for fit in ((), ("?0", "?1"), ("?a",), False, 0, ""):
            self.takes_not(self.fit(MORE, fit))

    def test_a_fit_of_another_form(self):
        for fit in (["?a"], "?a", {"?0": "?a"}, 5, (("?a",),), "?"):
            self.takes_not(self.fit(ID, fit))
        for fit in ([], {}, "", 0, False):
            self.takes_not(self.fit(N, fit))

    def test_kinds_in_another_order(self):
        program = read("(face F () (val v (-> ?a (-> ?b ?a)))) (part P F (val v (fun x (fun y x)))) (main 0)")
        papers = papers_of(program)
        self.assertEqual(papers[1][0][1], ("?a", "?b"))
        self.takes_not(thing_with(papers, (1, 0, 1), ("?b", "?a")), program)


class Forms(Taking):

    def test_a_paper_too_few_or_too_many(self):
        self.takes_not(PAPERS[:-1])
        self.takes_not(PAPERS[1:])
        self.takes_not(PAPERS + ((),))
        self.takes_not(((),) + PAPERS)
        self.takes_not(())
        self.takes_not(self.with_at((3,), PAPERS[3][:-1]))
        self.takes_not(self.with_at((3,), PAPERS[3] + PAPERS[3][-1:]))
        self.takes_not(self.with_at((3,), ()))
        self.takes_not(self.with_at((4,), PAPERS[4][1:]))

    def test_papers_exchanged(self):
        for one in range(len(PAPERS)):
            for other in range(len(PAPERS)):
                turned = list(PAPERS)
                turned[one], turned[other] = turned[other], turned[one]
                self.assertIs(takes_papers(PROGRAM, tuple(turned)), PAPERS[one] == PAPERS[other])
        rows = PAPERS[3]
        self.takes_not(self.with_at((3,), (rows[1], rows[0]) + rows[2:]))
        self.takes_not(self.with_at((3,), tuple(reversed(rows))))

    def test_papers_of_other_forms(self):
        for papers in (list(PAPERS), None, 0, "", {}, [], PAPERS[-1], dict(enumerate(PAPERS))):
            self.takes_not(papers)
        for place in range(6):
            for other in (None, 0, [], "", {}, ((),), [()], False):
                self.takes_not(self.with_at((place,), other))
        for other in (None, 0, (), "", {}, tuple(PAPERS[6]), [PAPERS[6]], [()], [None] * len(PAPERS[6])):
            self.takes_not(self.with_at((6,), other))
        for other in (list(PAPERS[3]), {}, PAPERS[3][0]):
            self.takes_not(self.with_at((3,), other))
        paper, fit = PAPERS[3][0]
        for other in ((paper,), (paper, fit, ()), (fit, paper), [paper, fit], paper, None, (tuple(paper), fit), (None, fit), ()):
            self.takes_not(self.with_at(ID, other))

    def test_empty_faces_parts_and_makers(self):
        program = read("(face F ()) (part P F (hide t () num)) (maker M ((X F)) F) (main 0)")
        self.takes(((), (), (), [("num", ())]), program)
        self.takes_not(((), None, (), [("num", ())]), program)
        self.takes_not(((), (), [], [("num", ())]), program)


class Plainly(unittest.TestCase):

    def test_changed_papers_against_a_plainer_telling(self):
        choice = random.Random(5)
        counts = {True: 0, False: 0}
        for name, program in list(PROGRAMS.items()) + [("own", PROGRAM)]:
            papers = papers_of(program)
            for place, declaration in enumerate(program):
                for made in self.changed(choice, papers, place, declaration):
                    wanted = plain_takes_papers(program, made)
                    self.assertIs(takes_papers(program, made), wanted, (name, made))
                    counts[wanted] += 1
        self.assertGreater(counts[True], 20)
        self.assertGreater(counts[False], 200)

    def changed(self, choice, papers, place, declaration):
        if declaration[0] == "main":
            for paper in self.papers_from(choice, declaration[1], papers[place]):
                yield thing_with(papers, (place,), paper)
        elif declaration[0] in ("part", "maker"):
            vals = [item for item in declaration if item[0] == "val"]
            for count, val in enumerate(vals):
                for paper in self.papers_from(choice, val[2], papers[place][count][0]):
                    yield thing_with(papers, (place, count, 0), paper)
                for fit in ((), None, ("num",), ("?a",), ("?b",), ("?a", "?b"), ("?b", "?a")):
                    yield thing_with(papers, (place, count, 1), fit)

    def papers_from(self, choice, phrase, paper):
        phrases = [None] * len(paper)
        yield from changed_papers(choice, phrases, paper, 6)
        # Called otherwise, which is as right as before.
        yield [(called_otherwise(kind), called_otherwise(given)) for kind, given in paper]


def called_otherwise(thing):
    if isinstance(thing, tuple):
        return tuple(called_otherwise(inner) for inner in thing)
    return "?more" + thing[1:] if thing.startswith("?") and thing[1:].isdigit() else thing


class Steady(Taking):

    def test_what_is_handed_in_stays(self):
        kept = copy.deepcopy(PAPERS)
        for turn in range(2):
            self.takes(PAPERS)
            self.takes_not(self.with_at((6,), ()))
        self.assertEqual(PAPERS, kept)
        self.assertEqual(PROGRAM, read(TEXT))


if __name__ == "__main__":
    unittest.main()
