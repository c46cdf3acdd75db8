"""Point 21: a thing that is wanted while it is under way, and the ring that is told then."""

import unittest

from idlegraph.machine import Machine, run
from idlegraph.texts import read


class Rings(unittest.TestCase):

    def check(self, text, depth, labels, counts, log=None):
        term = read(text)
        with self.subTest(text):
            outcome = run(term, depth)
            self.assertEqual(outcome[:3], ("ring", labels, counts))
            if log is not None:
                self.assertEqual(outcome[3], log)
            # The entering is counted: where it would be one too many, the run is spent.
            steps = counts[0]
            self.assertEqual(run(term, depth, steps), outcome)
            before = run(term, depth, steps - 1)
            self.assertEqual(before[:2] + before[2][:1], ("spent", "", steps - 1))
            # And it isn't logged.
            self.assertEqual(before[3], outcome[3])

    def test_one_thing(self):
        self.check("(let (x x) x)", 8, ("x",), (3, 0, 0), [("born", 0, "x", 1), ("enter", 0, "x", 2)])
        self.check("(let (x (+ x 1)) x)", 8, ("x",), (4, 0, 0))
        self.check("(let (x (+ 1 x)) x)", 8, ("x",), (5, 0, 0))
        self.check("(let (x (first x 1)) x)", 8, ("x",), (4, 0, 1))
        self.check("(let (x (x 1)) x)", 8, ("x",), (4, 0, 0))
        self.check("(let (x (choose x (No 1) (Yes 2))) x)", 8, ("x",), (4, 0, 0))

    def test_two_things(self):
        self.check("(let (a (+ b 1)) (b (+ a 1)) a)", 8, ("a", "b"), (6, 0, 0), [
            ("born", 0, "a", 1), ("born", 1, "b", 1), ("enter", 0, "a", 2), ("enter", 1, "b", 4)])
        self.check("(let (a (+ b 1)) (b (+ a 1)) b)", 8, ("b", "a"), (6, 0, 0), [
            ("born", 0, "a", 1), ("born", 1, "b", 1), ("enter", 1, "b", 2), ("enter", 0, "a", 4)])

    def test_five_things_in_the_order_of_entering(self):
        pairs = "(a b) (b c) (c d) (d e) (e a)"
        self.check(f"(let {pairs} a)", 8, ("a", "b", "c", "d", "e"), (7, 0, 0))
        self.check(f"(let {pairs} c)", 8, ("c", "d", "e", "a", "b"), (7, 0, 0))
        self.check(f"(let {pairs} e)", 8, ("e", "a", "b", "c", "d"), (7, 0, 0))

    def test_things_under_way_outside_of_the_ring(self):
        self.check("(let (a (+ b 1)) (b (+ c 1)) (c (+ b 1)) a)", 8, ("b", "c"), (8, 0, 0), [
            ("born", 0, "a", 1), ("born", 1, "b", 1), ("born", 2, "c", 1), ("enter", 0, "a", 2), ("enter", 1, "b", 4),
            ("enter", 2, "c", 6)])
        self.check("(let (a b) (b c) (c d) (d (+ d 1)) a)", 8, ("d",), (7, 0, 0))
        self.check("(let (a b) (b c) (c d) (d b) a)", 8, ("b", "c", "d"), (6, 0, 0))

    def test_things_that_are_back_are_not_told(self):
        self.check("(let (one 1) (a (+ one b)) (b (+ one a)) a)", 8, ("a", "b"), (10, 0, 0), [
            ("born", 0, "one", 1), ("born", 1, "a", 1), ("born", 2, "b", 1), ("enter", 1, "a", 2), ("enter", 0, "one", 4),
            ("back", 0, "one", 4), ("enter", 2, "b", 6), ("again", 0, "one", 8)])

    def test_things_that_wait_are_not_told(self):
        self.check("(let (x (first 1 x)) (y x) (z y) x)", 8, ("x",), (5, 0, 1))

    def test_alike_labels(self):
        self.check("(let (f (fun x (+ x 1))) (y (f (f y))) y)", 8, ("y", "x"), (12, 0, 0), [
            ("born", 0, "f", 1), ("born", 1, "y", 1), ("enter", 1, "y", 2), ("enter", 0, "f", 4), ("back", 0, "f", 4),
            ("born", 2, "x", 5), ("enter", 2, "x", 7), ("again", 0, "f", 9)])
        self.check("(let (f (fun x (+ x 1))) (y (f (f (f y)))) y)", 8, ("y", "x", "x"), (17, 0, 0))
        self.check("(let (x (let (x x) x)) x)", 8, ("x",), (5, 0, 0), [
            ("born", 0, "x", 1), ("enter", 0, "x", 2), ("born", 1, "x", 3), ("enter", 1, "x", 4)])

    def test_a_part_of_a_shape(self):
        self.check("(let (xs (Cons (choose xs (Nil 0) (Cons a b a)) Nil)) xs)", 2, ("Cons.1",), (8, 1, 0), [
            ("born", 0, "xs", 1), ("enter", 0, "xs", 2), ("born", 1, "Cons.1", 3), ("born", 2, "Cons.2", 3),
            ("back", 0, "xs", 3), ("enter", 1, "Cons.1", 4), ("again", 0, "xs", 6)])
        self.check("(let (p (Pair 1 (choose p (Pair a b b)))) (choose p (Pair a b b)))", 2, ("Pair.2",), (10, 0, 0))

    def test_a_list_that_is_told_in_part(self):
        self.check("(let (xs (Cons 1 (Cons x xs))) (x (+ x 1)) xs)", 4, ("x",), (9, 2, 0), [
            ("born", 0, "xs", 1), ("born", 1, "x", 1), ("enter", 0, "xs", 2), ("born", 2, "Cons.1", 3),
            ("born", 3, "Cons.2", 3), ("back", 0, "xs", 3), ("enter", 2, "Cons.1", 4), ("back", 2, "Cons.1", 4),
            ("enter", 3, "Cons.2", 5), ("back", 3, "Cons.2", 6), ("enter", 1, "x", 7)])
        self.assertEqual(run(read("(let (xs (Cons 1 (Cons x xs))) (x (+ x 1)) xs)"), 2)[:2],
                         ("told", "(Cons 1 (Cons ? ?))"))
        self.check("(Cons 5 (let (x x) x))", 2, ("x",), (6, 1, 0), [
            ("born", 0, "Cons.1", 1), ("born", 1, "Cons.2", 1), ("enter", 0, "Cons.1", 2), ("back", 0, "Cons.1", 2),
            ("enter", 1, "Cons.2", 3), ("born", 2, "x", 4), ("enter", 2, "x", 5)])

    def test_what_was_under_way_for_another_part(self):
        self.check("(Pair (let (x 1) x) (let (y y) y))", 2, ("y",), (8, 0, 0), [
            ("born", 0, "Pair.1", 1), ("born", 1, "Pair.2", 1), ("enter", 0, "Pair.1", 2), ("born", 2, "x", 3),
            ("enter", 2, "x", 4), ("back", 2, "x", 4), ("back", 0, "Pair.1", 4), ("enter", 1, "Pair.2", 5),
            ("born", 3, "y", 6), ("enter", 3, "y", 7)])


class NoRings(unittest.TestCase):

    def test_what_is_not_wanted_is_no_ring(self):
        self.assertEqual(run(read("(let (x x) 5)"))[:3], ("told", "5", (1, 0, 0)))
        self.assertEqual(run(read("(let (x x) (Cons x Nil))"), 1)[:2], ("told", "(Cons ? ?)"))
        self.assertEqual(run(read("(let (x x) x)"), 0)[:3], ("told", "?", (0, 0, 0)))

    def test_a_thing_that_leads_to_itself_and_is_ready(self):
        self.assertEqual(run(read("(let (xs (Cons 1 xs)) xs)"), 2)[:2], ("told", "(Cons 1 (Cons ? ?))"))
        self.assertEqual(run(read("(let (f (fun n (choose (= n 0) (No (f (- n 1))) (Yes 7)))) (f 3))"))[:2], ("told", "7"))

    def test_two_things_that_lead_to_one_another(self):
        self.assertEqual(run(read("(let (a (Cons 1 b)) (b (Cons 2 a)) a)"), 3)[:2],
                         ("told", "(Cons 1 (Cons 2 (Cons ? ?)))"))

    def test_a_run_without_an_end_that_is_no_ring(self):
        for text in ("(let (f (fun x (f x))) (f 1))", "(let (f (fun x (+ 1 (f x)))) (f 1))",
                     "(let (f (fun u (let (x (f 0)) (+ x 1)))) (f 0))"):
            with self.subTest(text):
                self.assertEqual(run(read(text), 8, 5000)[:2], ("spent", ""))


class Ended(unittest.TestCase):

    def test_the_same_is_told_again(self):
        machine = Machine(read("(let (a (+ b 1)) (b (+ a 1)) a)"))
        ended = machine.go(400)
        self.assertEqual(ended[:2], ("ring", ("a", "b")))
        for most in (0, 5, 6, 7, 1000):
            self.assertEqual(machine.go(most), ended)

    def test_things_stay_as_they_were(self):
        machine = Machine(read("(let (a (+ b c)) (b (+ a 1)) (c 3) a)"))
        machine.go(400)
        self.assertEqual(machine.states(), {0: "under way", 1: "under way", 2: "waiting"})
        self.assertEqual(machine.links(), {0: [], 1: [], 2: []})
        self.assertEqual(machine.roots(), [0, 1, 2])


if __name__ == "__main__":
    unittest.main()
