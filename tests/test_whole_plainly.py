"""Changed programs, found and run, against a plainer telling of the same rules; and what [3] promises of them."""

import random
import unittest

from changing import changed_programs
from facework.running import run
from facework.scopes import look_over
from facework.taking import takes_papers
from facework.whole import papers_of
from helping import told_of
from plain_whole import plain_papers, plain_run, plain_takes_papers
from programs import PROGRAMS


class Plainly(unittest.TestCase):

    def test_papers_of_the_programs(self):
        for name, program in PROGRAMS.items():
            with self.subTest(name):
                self.assertIsNone(look_over(program))
                self.assertEqual(papers_of(program), plain_papers(program))
                self.assertTrue(plain_takes_papers(program, papers_of(program)))

    def test_changed_programs(self):
        counts = {}
        choice = random.Random(12)
        for program in changed_programs(choice, PROGRAMS, 250):
            papers = told_of(papers_of, program)
            self.assertEqual(papers, plain_papers(program), program)
            most = choice.choice((300, 300, 300, 20, 3, 0, -1))
            number = told_of(run, program, most)
            self.assertEqual(number, plain_run(program, most)[0], (program, most))
            if not isinstance(papers, str):
                self.assertIs(takes_papers(program, papers), True, program)
                self.assertNotEqual(number, "Stuck", program)
            for told in (papers, number):
                name = told if isinstance(told, str) else "right"
                counts[name] = counts.get(name, 0) + 1
        for name in ("right", "NoKind", "NoFace", "Stuck", "TooLong"):
            self.assertGreater(counts[name], 5, counts)


if __name__ == "__main__":
    unittest.main()
