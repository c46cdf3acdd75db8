"""Point 22: a machine goes on from where it stands, and tells all from the beginning."""

import random
import unittest

from idlegraph.machine import Machine, run
from idlegraph.texts import read
from some_terms import busy_term

TOLD = "(let (x (+ 1 2)) (y (Cons x Nil)) (first y (Pair y (+ x x))))"
STOP = "(let (x (+ 1 2)) (Cons x (first x (stop w))))"
STUCK = "(let (x (+ 1 2)) (Pair (+ x x) (x x)))"
RING = "(let (xs (Cons 1 (Cons x xs))) (x (+ 1 (first y x))) (y 5) xs)"
SPENT = "(let (f (fun n (Cons n (f (+ n 1))))) (last (fun l (choose l (Nil 0) (Cons a b (last b))))) (last (f 0)))"
ENDS = ((TOLD, "told"), (STOP, "stop"), (STUCK, "stuck"), (RING, "ring"), (SPENT, "spent"))


def told(machine):
    return (machine.states(), machine.links(), machine.roots())


# A machine that is new goes there at once.
def at_once(term, depth, most):
    machine = Machine(term, depth)
    outcome = machine.go(most)
    return (outcome, told(machine))


class GoingOn(unittest.TestCase):

    def test_the_ends(self):
        for text, word in ENDS:
            with self.subTest(text):
                self.assertEqual(run(read(text))[0], word)

    def test_step_by_step(self):
        for text, word in ENDS:
            term = read(text)
            machine = Machine(term)
            for most in range(60):
                with self.subTest(text=text, most=most):
                    outcome = machine.go(most)
                    self.assertEqual((outcome, told(machine)), at_once(term, 8, most))
                    self.assertEqual(outcome, run(term, 8, most))

    def test_in_leaps(self):
        for text, word in ENDS:
            for leaps in ((3, 400), (1, 2, 11, 400), (0, 7, 8, 20, 400), (5, 5, 10, 10, 400)):
                machine = Machine(read(text))
                for most in leaps:
                    with self.subTest(text=text, leaps=leaps, most=most):
                        outcome = machine.go(most)
                        self.assertEqual((outcome, told(machine)), at_once(read(text), 8, most))

    def test_many_terms_in_leaps(self):
        chance = random.Random(31)
        for place in range(150):
            term, depth, most = busy_term(chance), chance.randrange(7), 0
            machine = Machine(term, depth)
            for leap in range(8):
                most += chance.randrange(30)
                outcome = machine.go(most)
                # Asked or not between two goings, it is the same.
                if chance.randrange(2):
                    self.assertEqual((outcome, told(machine)), at_once(term, depth, most), (term, depth, most))
                self.assertEqual(outcome, run(term, depth, most))

    def test_far(self):
        machine = Machine(read(SPENT), 8)
        for most in (100, 10000, 100000):
            outcome = machine.go(most)
            self.assertEqual(outcome[:2] + outcome[2][:1], ("spent", "", most))
        self.assertEqual(outcome, run(read(SPENT), 8, 100000))


class NotGreater(unittest.TestCase):

    def test_nothing_is_done(self):
        for text, word in ENDS:
            machine = Machine(read(text))
            there = machine.go(6)
            kept = told(machine)
            self.assertEqual(there[:2] + there[2][:1], ("spent", "", 6))
            for most in (6, 5, 1, 0, 6, 2):
                with self.subTest(text=text, most=most):
                    self.assertEqual(machine.go(most), there)
                    self.assertEqual(told(machine), kept)
            self.assertEqual(machine.go(400), run(read(text)))

    def test_no_step_at_all(self):
        for text in (TOLD, STOP, STUCK, RING, SPENT, "(+ 1 2)", "Nil"):
            machine = Machine(read(text))
            for time in range(3):
                with self.subTest(text):
                    self.assertEqual(machine.go(0), ("spent", "", (0, 0, 0), []))
                    self.assertEqual(told(machine), ({}, {}, []))

    def test_where_no_step_is_due_it_has_ended(self):
        for text, outcome in (("7", ("told", "7")), ("(fun x x)", ("told", "fun")), ("(stop w)", ("stop", "w"))):
            machine = Machine(read(text))
            for most in (0, 0, 5):
                with self.subTest(text):
                    self.assertEqual(machine.go(most), (*outcome, (0, 0, 0), []))

    def test_before_it_is_asked_to_go(self):
        machine = Machine(read(TOLD))
        self.assertEqual(told(machine), ({}, {}, []))
        machine.drop([0, 1])
        self.assertEqual(machine.go(400), run(read(TOLD)))


class OnceEnded(unittest.TestCase):

    def test_the_same_is_told_again(self):
        for text, word in ENDS[:4]:
            machine = Machine(read(text))
            ended = machine.go(400)
            kept = told(machine)
            self.assertEqual(ended[0], word)
            for most in (400, 100000, 3, 0, ended[2][0], ended[2][0] - 1):
                with self.subTest(text=text, most=most):
                    self.assertEqual(machine.go(most), ended)
                    self.assertEqual(told(machine), kept)

    def test_at_just_the_steps_that_it_needs(self):
        for text, word in ENDS[:4]:
            ended = run(read(text))
            steps = ended[2][0]
            with self.subTest(text):
                machine = Machine(read(text))
                self.assertEqual(machine.go(steps - 1)[:2] + machine.go(steps - 1)[2][:1], ("spent", "", steps - 1))
                self.assertEqual(machine.go(steps), ended)


class WithoutAStep(unittest.TestCase):

    def test_ways_back_are_gone_before_it_is_spent(self):
        machine = Machine(read("(let (x 1) (y x) (+ y y))"))
        self.assertEqual(machine.go(4), ("spent", "", (4, 0, 0), [
            ("born", 0, "x", 1), ("born", 1, "y", 1), ("enter", 1, "y", 3), ("enter", 0, "x", 4), ("back", 0, "x", 4),
            ("back", 1, "y", 4)]))
        self.assertEqual(machine.states(), {0: "ready", 1: "ready"})

    def test_what_can_be_told_is_told_before_it_is_spent(self):
        machine = Machine(read("(Cons 1 2)"))
        self.assertEqual(machine.go(2)[3][-1], ("back", 0, "Cons.1", 2))
        # The first part was told, and the second one is in hand.
        self.assertEqual(machine.roots(), [1])
        self.assertEqual(machine.go(3)[:2], ("told", "(Cons 1 2)"))

    def test_an_end_that_is_no_step(self):
        for text, steps, outcome in (("(let (x 1) x)", 2, ("told", "1")), ("((stop a) 1)", 1, ("stop", "a")),
                                     ("(1 2)", 1, ("stuck", "")), ("(Cons 1 2)", 3, ("told", "(Cons 1 2)"))):
            with self.subTest(text):
                self.assertEqual(Machine(read(text)).go(steps)[:2], outcome)
                self.assertEqual(Machine(read(text)).go(steps - 1)[0], "spent")


class AskersOwn(unittest.TestCase):

    def test_the_log(self):
        for text, word in ENDS:
            term = read(text)
            machine = Machine(term)
            early = machine.go(6)
            kept = list(early[3])
            machine.go(9)
            with self.subTest(text):
                self.assertEqual(early[3], kept)
                early[3].clear()
                self.assertEqual(machine.go(9), run(term, 8, 9))
                machine.go(400)[3].append("more")
                machine.go(400)[3].reverse()
                self.assertEqual(machine.go(400), run(term))
                self.assertEqual(term, read(text))


if __name__ == "__main__":
    unittest.main()
