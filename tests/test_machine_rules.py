"""Points 2 and 18 to 24 over many terms: the machine against the log by names, a slower machine, and the terms' kinds."""

import random
import unittest

from idlegraph import names
from idlegraph.finder import kind_of
from idlegraph.machine import Machine, run
from idlegraph.terms import free
from idlegraph.texts import read
from goings_again import left_out
from slow_machine import SlowMachine
from some_terms import busy_term, some_kind, some_term, term_of
from test_names_rules import is_of


class Reading(unittest.TestCase):

    def check(self, log, rows, ring=None, cut=0, broken=False):
        self.assertEqual(left_out(log), (rows, ring, cut, broken))

    def test_nothing_again(self):
        log = [("born", 0, "x", 1), ("enter", 0, "x", 3), ("back", 0, "x", 6)]
        self.check(log, log)

    def test_one_going_again(self):
        self.check([("born", 0, "x", 1), ("enter", 0, "x", 3), ("back", 0, "x", 6), ("enter", 0, "x", 8),
                    ("back", 0, "x", 11), ("born", 1, "y", 13)],
                   [("born", 0, "x", 1), ("enter", 0, "x", 3), ("back", 0, "x", 6), ("again", 0, "x", 8),
                    ("born", 1, "y", 10)], cut=3)

    def test_things_born_again_are_taken_for_the_first_ones(self):
        self.check([("born", 0, "x", 1), ("enter", 0, "x", 2), ("born", 1, "Cons.1", 3), ("born", 2, "Cons.2", 3),
                    ("back", 0, "x", 3), ("enter", 0, "x", 4), ("born", 3, "Cons.1", 5), ("born", 4, "Cons.2", 5),
                    ("back", 0, "x", 5), ("enter", 4, "Cons.2", 6), ("born", 5, "y", 7), ("back", 4, "Cons.2", 7),
                    ("enter", 2, "Cons.2", 8), ("born", 6, "y", 9), ("back", 2, "Cons.2", 9), ("enter", 6, "y", 10)],
                   [("born", 0, "x", 1), ("enter", 0, "x", 2), ("born", 1, "Cons.1", 3), ("born", 2, "Cons.2", 3),
                    ("back", 0, "x", 3), ("again", 0, "x", 4), ("enter", 2, "Cons.2", 5), ("born", 3, "y", 6),
                    ("back", 2, "Cons.2", 6), ("again", 2, "Cons.2", 7), ("enter", 3, "y", 8)], cut=2)

    def test_a_ring(self):
        self.check([("born", 0, "a", 1), ("born", 1, "b", 1), ("enter", 0, "a", 2), ("enter", 1, "b", 4),
                    ("enter", 1, "b", 5), ("enter", 1, "b", 6)],
                   [("born", 0, "a", 1), ("born", 1, "b", 1), ("enter", 0, "a", 2), ("enter", 1, "b", 4)], (("b",), 5))

    def test_broken_off(self):
        log = [("born", 0, "x", 1), ("enter", 0, "x", 3), ("back", 0, "x", 6), ("enter", 0, "x", 8)]
        self.check(log, log[:3] + [("again", 0, "x", 8)], broken=True)


class AgainstTheLogByNames(unittest.TestCase):

    # Gives the word of the end that was compared.
    def compare(self, term, depth, most):
        by_names = names.run(term, depth, most)
        rows, ring, cut, broken = left_out(by_names[3])
        told = (term, depth, most)
        if ring is not None:
            self.assertEqual(by_names[0], "spent", told)
            outcome = run(term, depth, ring[1])
            self.assertEqual((outcome[:2], outcome[2][0], outcome[3]), (("ring", ring[0]), ring[1], rows), told)
            return "ring"
        if broken:
            # The machine has the value at once, and what goes without a step behind it is logged by then.
            outcome = run(term, depth, rows[-1][3])
            self.assertEqual((outcome[2][0], outcome[3][:len(rows)]), (rows[-1][3], rows), told)
            return "broken"
        outcome = run(term, depth, most - cut)
        self.assertEqual((outcome[:2], outcome[2][0]), (by_names[:2], by_names[2][0] - cut), told)
        self.assertEqual(outcome[3], rows, told)
        return outcome[0] + (" with less" if cut else "")

    def compare_all(self, terms, chance, mosts, least):
        ends = {}
        for term in terms:
            end = self.compare(term, chance.randrange(8), chance.choice(mosts))
            ends[end] = ends.get(end, 0) + 1
        for end, times in least.items():
            self.assertGreater(ends.get(end, 0), times, ends)

    def test_terms_that_mind_no_kinds(self):
        chance = random.Random(41)
        terms = [some_term(chance, chance.randrange(1, 7), []) for place in range(5000)]
        self.compare_all(terms, chance, (4, 20, 1000), {"told": 800, "stop": 300, "stuck": 400, "ring": 50, "spent": 50})

    def test_terms_that_have_a_kind(self):
        chance = random.Random(42)
        terms = [term_of(chance, some_kind(chance, 2), chance.randrange(1, 7), {}) for place in range(2000)]
        self.compare_all(terms, chance, (20, 400, 1000), {"told": 800, "stop": 100, "ring": 10})

    def test_terms_that_come_to_the_same_things_over_and_over(self):
        chance = random.Random(43)
        terms = [busy_term(chance) for place in range(1200)]
        self.compare_all(terms, chance, (50, 200, 400, 2000),
                         {"told with less": 200, "stop with less": 5, "ring": 100, "broken": 5, "spent with less": 10})

    def test_terms_told_by_hand(self):
        ones, nats = "(let (ones (Cons 1 ones)) ones)", "(let (nats (fun n (Cons n (nats (+ n 1))))) (nats 0))"
        fib = "(let (f (fun n (choose (< n 2) (No (+ (f (- n 1)) (f (- n 2)))) (Yes n)))) (f 5))"
        knot = "(let (a (Cons 1 (map a))) (map (fun l (choose l (Nil Nil) (Cons h t (Cons (+ h 1) (map t)))))) a)"
        for text, end in ((ones, "told with less"), (nats, "told with less"), (fib, "told with less"),
                          (knot, "told with less"), ("(let (x (+ 1 2)) (first x (x 1)))", "stuck with less"),
                          ("(let (x (+ 1 2)) (first x (first x (stop w))))", "stop with less"),
                          ("(let (x (+ 1 2)) (y (first x (first x y))) y)", "ring")):
            with self.subTest(text):
                self.assertEqual(self.compare(read(text), 4, 100000), end)

    # A thing is gone into once at most, and none that the run by names doesn't go into.
    def test_what_is_reckoned(self):
        chance = random.Random(44)
        for place in range(400):
            term, depth = busy_term(chance), chance.randrange(6)
            by_names, outcome = names.run(term, depth, 3000), run(term, depth, 3000)
            if by_names[0] != "told":
                continue
            entered = [row[1] for row in outcome[3] if row[0] == "enter"]
            self.assertEqual(len(entered), len(set(entered)))
            self.assertLessEqual(len(entered), len([row for row in by_names[3] if row[0] == "enter"]))
            self.assertLessEqual(outcome[2][0], by_names[2][0])
            self.assertLessEqual(outcome[2][1], by_names[2][1])


class AgainstASlowerMachine(unittest.TestCase):

    def compare(self, term, depth, most, leap):
        machine, slow = Machine(term, depth), SlowMachine(term, depth)
        for steps in range(0, most + 1, leap):
            outcome = machine.go(steps)
            self.assertEqual(outcome, slow.go(steps), (term, depth, steps))
            self.assertEqual(machine.states(), slow.states, (term, depth, steps))
            self.assertEqual(machine.links(), slow.links(), (term, depth, steps))
            self.assertEqual(machine.roots(), slow.roots(), (term, depth, steps))
            if outcome[0] != "spent":
                break
        return outcome[0]

    def test_terms_that_mind_no_kinds(self):
        chance = random.Random(45)
        ends = [self.compare(some_term(chance, chance.randrange(1, 7), []), chance.randrange(8), 100, 1)
                for place in range(1500)]
        for word in ("told", "stop", "stuck", "ring"):
            self.assertGreater(ends.count(word), 50, word)

    def test_terms_that_come_to_the_same_things_over_and_over(self):
        chance = random.Random(46)
        ends = [self.compare(busy_term(chance), chance.randrange(8), chance.choice((30, 300)), chance.choice((1, 1, 3, 7)))
                for place in range(300)]
        for word in ("told", "ring", "spent"):
            self.assertGreater(ends.count(word), 5, word)


class Kinds(unittest.TestCase):

    def test_no_term_that_has_a_kind_is_stuck(self):
        chance = random.Random(47)
        words = []
        for place in range(1500):
            busy = place % 3 == 0
            term = busy_term(chance) if busy else term_of(chance, some_kind(chance, 3), chance.randrange(1, 7), {})
            self.assertEqual(free(term), [])
            outcome = run(term, chance.randrange(9), 400)
            words.append(outcome[0])
            self.assertNotEqual(outcome[0], "stuck", term)
            if outcome[0] == "told":
                self.assertTrue(is_of(kind_of(term), outcome[1]), (term, outcome[1]))
        for word in ("told", "stop", "ring"):
            self.assertGreater(words.count(word), 20, word)


if __name__ == "__main__":
    unittest.main()
