"""Points 1, 16 and 17: a run that is spent goes on from where it stands, and each log given is the asker's own."""

import unittest

from idlegraph.names import run
from idlegraph.runner import Runner
from idlegraph.texts import read

TERM = read("(let (x (Cons 1 Nil)) (first x (Pair x (+ 1 2))))")


class GoingOn(unittest.TestCase):

    def test_step_by_step(self):
        runner = Runner(TERM, 8)
        for most in range(40):
            self.assertEqual(runner.go(most), run(TERM, 8, most))
        self.assertEqual(runner.go(40)[:2], ("told", "(Pair (Cons 1 Nil) 3)"))

    def test_in_leaps(self):
        runner = Runner(TERM, 8)
        for most in (3, 3, 7, 12, 400):
            self.assertEqual(runner.go(most), run(TERM, 8, most))

    def test_a_number_that_is_not_greater(self):
        runner = Runner(TERM, 8)
        there = runner.go(9)
        for most in (9, 8, 1, 0):
            self.assertEqual(runner.go(most), there)
        self.assertEqual(runner.go(400), run(TERM, 8, 400))

    def test_ended_it_tells_the_same_again(self):
        for text in ("(+ 1 2)", "(Cons 1 (stop a))", "(+ 1 Yes)"):
            runner = Runner(read(text), 8)
            ended = runner.go(400)
            for most in (0, 1, 400, 1000):
                self.assertEqual(runner.go(most), ended)

    def test_each_log_is_the_asker_s_own(self):
        runner = Runner(TERM, 8)
        early = runner.go(4)
        kept = list(early[3])
        runner.go(6)
        self.assertEqual(early[3], kept)
        early[3].clear()
        self.assertEqual(runner.go(400), run(TERM, 8, 400))
        runner.go(400)[3].append("more")
        self.assertEqual(runner.go(400), run(TERM, 8, 400))


if __name__ == "__main__":
    unittest.main()
