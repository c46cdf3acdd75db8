"""Point 23: the states of things, what they lead to, the roots of a machine, and things that are dropped."""

import unittest

from idlegraph.machine import Machine, run
from idlegraph.texts import read

W, U, R = "waiting", "under way", "ready"


# The states of the things from number 0 on.
def states(*words):
    return dict(enumerate(words))


class StepByStep(unittest.TestCase):

    # A row for each number of steps from 0 on: states, links and roots.
    def check(self, text, depth, word, rows):
        machine = Machine(read(text), depth)
        for steps, (kept, links, roots) in enumerate(rows):
            with self.subTest(text=text, steps=steps):
                outcome = machine.go(steps)
                self.assertEqual(outcome[2][0], steps)
                self.assertEqual(outcome[0], word if steps == len(rows) - 1 else "spent")
                self.assertEqual(machine.states(), kept)
                self.assertEqual(machine.links(), links)
                self.assertEqual(machine.roots(), roots)

    def test_a_fun_that_is_called_twice(self):
        one, two = {0: [], 1: [0]}, {0: [], 1: []}
        three = {0: [], 1: [], 2: []}
        self.check("(let (f (fun x (+ x x))) (f (f 1)))", 8, "told", [
            ({}, {}, []), (states(W), {0: []}, [0]), (states(W), {0: []}, [0]), (states(R), {0: []}, [0]),
            (states(R, W), one, [1]), (states(R, W), one, [1]), (states(R, U), two, [0, 1]), (states(R, U), two, [0, 1]),
            (states(R, U), two, [1]), (states(R, U, W), three, [1, 2]), (states(R, U, W), three, [1, 2]),
            (states(R, U, R), three, [1, 2]), (states(R, U, R), three, [1, 2]), (states(R, U, R), three, [1]),
            (states(R, R, R), three, [1]), (states(R, R, R), three, [1]), (states(R, R, R), three, []),
            (states(R, R, R), three, [])])

    def test_a_list_that_leads_to_itself(self):
        links = {0: [0, 1], 1: []}
        self.check("(let (x (Cons 1 x)) x)", 3, "told", [
            ({}, {}, []), (states(W), {0: [0]}, [0]), (states(U), {0: []}, [0]), (states(R, W), links, [0, 1]),
            (states(R, R), links, [0]), (states(R, R), links, [0, 1]), (states(R, R), links, [0]),
            (states(R, R), links, [])])

    def test_a_text_that_is_a_mark(self):
        links = {0: [], 1: []}
        self.check("(let (x 1) (y x) (+ y y))", 8, "told", [
            ({}, {}, []), (states(W, W), {0: [], 1: [0]}, [1]), (states(W, W), {0: [], 1: [0]}, [1]),
            (states(W, U), links, [0, 1]), (states(R, R), links, [1]), (states(R, R), links, [1]),
            (states(R, R), links, []), (states(R, R), links, [])])

    def test_a_stop(self):
        self.check("(let (y 1) (z 2) (+ (first (stop w) y) z))", 8, "stop", [
            ({}, {}, []), (states(W, W), {0: [], 1: []}, [0, 1]), (states(W, W), {0: [], 1: []}, [0, 1]),
            (states(W, W), {0: [], 1: []}, [0, 1])])

    def test_a_stop_in_a_thing_of_a_list(self):
        three = {0: [], 1: [0], 2: []}
        under = {0: [], 1: [], 2: []}
        self.check("(let (y 1) (Cons (first 5 (first y (stop w))) y))", 3, "stop", [
            ({}, {}, []), (states(W), {0: []}, [0]), (states(W, W), {0: [], 1: [0]}, [0, 1]),
            (states(W, U), {0: [], 1: []}, [0, 1]), (states(W, U), {0: [], 1: []}, [0, 1]),
            (states(W, U), {0: [], 1: []}, [0, 1]), (states(W, U), {0: [], 1: []}, [0, 1]),
            (states(R, U), {0: [], 1: []}, [0, 1]), (states(R, U), {0: [], 1: []}, [0, 1])])
        self.check("(let (y 1) (Cons (first y (stop w)) (+ 1 2)))", 3, "stop", [
            ({}, {}, []), (states(W), {0: []}, [0]), (states(W, W, W), three, [1, 2]),
            (states(W, U, W), under, [0, 1, 2]), (states(W, U, W), under, [0, 1, 2]), (states(R, U, W), under, [1, 2]),
            (states(R, U, W), under, [1, 2])])

    def test_stuck(self):
        two = {0: [], 1: []}
        self.check("(let (y 1) (z 2) (choose (fun x y) (No z) (Yes 0)))", 8, "stuck", [
            ({}, {}, []), (states(W, W), two, [0, 1]), (states(W, W), two, [0, 1])])
        self.check("(let (y 1) (z 2) ((Pair y 3) z))", 8, "stuck", [
            ({}, {}, []), (states(W, W), two, [0, 1]), (states(W, W), two, [0, 1]),
            (states(W, W, W), {0: [], 1: [], 2: []}, [0, 1, 2])])

    def test_a_ring(self):
        self.check("(let (x (+ x y)) (y 1) (z x) (Cons x z))", 4, "ring", [
            ({}, {}, []), (states(W, W, W), {0: [0, 1], 1: [], 2: [0]}, [0, 2]),
            (states(W, W, W), {0: [0, 1], 1: [], 2: [0]}, [0, 2]), (states(U, W, W), {0: [], 1: [], 2: [0]}, [0, 1, 2]),
            (states(U, W, W), {0: [], 1: [], 2: [0]}, [0, 1, 2]), (states(U, W, W), {0: [], 1: [], 2: [0]}, [0, 1, 2])])


class Roots(unittest.TestCase):

    # For each text, what is a root when so many steps were taken.
    def check(self, text, depth, *rows):
        machine = Machine(read(text), depth)
        for steps, roots in rows:
            with self.subTest(text=text, steps=steps):
                self.assertEqual(machine.go(steps)[2][0], steps)
                self.assertEqual(machine.roots(), roots)

    def test_in_hand(self):
        self.check("(let (y 1) (z 2) (+ y z))", 8, (1, [0, 1]), (4, [1]), (5, []))
        self.check("(let (y 1) (+ 1 (+ 2 y)))", 8, (1, [0]), (3, [0]), (4, [0]), (5, [0]), (6, []))

    def test_a_value_in_hand(self):
        self.check("(let (y 1) ((fun x y) 2))", 8, (2, [0]), (3, [0]))
        self.check("(let (y 1) (first (fun x y) 2))", 8, (2, [0]), (3, []))
        self.check("(let (y 1) (first (Cons y 3) 2))", 8, (2, [0]), (3, [0, 1]), (4, []))

    def test_a_frame_to_give(self):
        self.check("(let (y 1) ((fun x 5) (+ y 2)))", 8, (1, [0]), (2, [0]), (3, []))
        self.check("(let (y 1) ((fun x 5) y))", 8, (2, [0]), (3, []))

    def test_a_frame_with_op_and_term(self):
        self.check("(let (y 1) (+ 2 (* y 3)))", 8, (2, [0]), (3, [0]), (5, []))

    def test_a_frame_with_op_and_number(self):
        self.check("(let (y 1) (+ y 2))", 8, (2, [0]), (3, []), (4, []), (5, []))

    def test_a_frame_with_alternatives(self):
        self.check("(let (y 1) (z 2) (choose Yes (No y) (Yes z)))", 8, (2, [0, 1]), (3, [0, 1]), (4, [1]), (5, []))
        self.check("(let (y 1) (z 2) (choose (Cons 5 Nil) (Nil y) (Cons a b (+ a z))))", 8,
                   (2, [0, 1]), (3, [0, 1, 2, 3]), (4, [1, 2]), (5, [1, 2]), (6, [1]))
        self.check("(let (y 1) (choose (Pair 5 Nil) (Pair a b (+ y y))))", 8, (2, [0]), (3, [0, 1, 2]), (4, [0]))

    def test_a_frame_of_first(self):
        self.check("(let (y 1) (first 5 y))", 8, (2, [0]), (3, [0]), (4, []))

    def test_a_way_back(self):
        self.check("(let (y (+ 1 2)) y)", 8, (1, [0]), (2, [0]), (3, [0]), (4, [0]), (5, []))
        self.check("(let (a b) (b c) (c (+ 1 2)) (first a 0))", 8, (2, [0]), (3, [0, 1]), (4, [0, 1, 2]), (5, [0, 1, 2]),
                   (7, [0, 1, 2]), (8, []))

    def test_what_is_still_to_be_told(self):
        self.check("(let (y 1) (Cons 2 y))", 8, (1, [0]), (2, [0, 1]), (3, [0]), (4, []))
        self.check("(let (y 1) (Pair (Pair 2 y) 3))", 8, (2, [1, 2]), (3, [0, 1, 2]), (4, [0, 2, 3]), (5, [0, 2]), (6, [2]),
                   (7, []))

    def test_not_what_is_wanted_to_depth_nothing(self):
        self.check("(let (y 1) (Cons 2 y))", 1, (1, [0]), (2, []))
        self.check("(let (y 1) (z 2) (Cons (Cons 3 y) z))", 2, (2, [1, 2]), (3, [0, 1, 2]), (4, [1]), (5, []))
        self.check("(let (y 1) y)", 0, (0, []))
        # No term is handed in with marks in it; here they show what is a root before the first going.
        marked = ("call", ("at", 3), ("at", 1))
        self.assertEqual([Machine(marked, depth).roots() for depth in (0, 1, 2)], [[], [1, 3], [1, 3]])

    def test_each_once_and_rising(self):
        self.check("(let (a 1) (b 2) (c 3) (d 4) (e 5) (+ e (+ c (+ a (+ c (+ d (+ b e)))))))", 8, (1, [0, 1, 2, 3, 4]),
                   (2, [0, 1, 2, 3, 4]), (8, [0, 1, 2, 3, 4]))
        text = "(let (a 1) (+ a (+ a (first a (choose (< a a) (No a) (Yes a))))))"
        self.check(text, 8, *[(steps, [0]) for steps in range(1, 18)], (18, []))

    def test_frames_that_came_and_went_between_two_askings(self):
        text = "(let (a 1) (b 2) (c 3) (+ (first a 0) (+ (first b 0) (first c 0))))"
        machine = Machine(read(text))
        wanted = [[], [0, 1, 2], [0, 1, 2], [0, 1, 2], [1, 2], [1, 2], [1, 2], [1, 2], [1, 2], [2], [2], [2], [2], [], [], []]
        for steps, roots in enumerate(wanted):
            machine.go(steps)
            self.assertEqual(machine.roots(), roots, steps)
        for leap in (2, 3, 5, 7):
            machine = Machine(read(text))
            for steps in range(0, len(wanted), leap):
                machine.go(steps)
                self.assertEqual(machine.roots(), wanted[steps], (leap, steps))

    def test_at_the_ends(self):
        for text, word, roots in (
                ("(let (a 1) (b 2) (+ a (first b 3)))", "told", []),
                ("(let (a 1) (b (+ 2 (stop w))) (Pair b a))", "stop", [0, 1]),
                ("(let (a 1) (b (stop w)) (c 3) (+ b (first a 4)))", "stop", [0, 1]),
                ("(let (a 1) (b (a c)) (c 3) (Pair b 5))", "stuck", [1, 2, 3]),
                ("(let (a (Pair c c)) (b (+ a d)) (c 3) (d 4) b)", "stuck", [1, 2, 3]),
                ("(let (a (+ b 1)) (b (+ c d)) (c (first b 0)) (d 4) (Pair a 7))", "ring", [0, 1, 2, 3, 4])):
            with self.subTest(text):
                machine = Machine(read(text))
                self.assertEqual(machine.go(400)[0], word)
                self.assertEqual(machine.roots(), roots)
                self.assertEqual(machine.roots(), roots)


class Dropped(unittest.TestCase):

    def test_no_longer_kept(self):
        machine = Machine(read("(let (a 1) (b a) (c (Cons b 2)) (first c (first c 7)))"))
        machine.go(5)
        self.assertEqual(machine.states(), states(W, W, R, W))
        self.assertEqual(machine.links(), {0: [], 1: [0], 2: [1, 3], 3: []})
        machine.drop([3, 0])
        self.assertEqual(machine.states(), {1: W, 2: R})
        self.assertEqual(machine.links(), {1: [0], 2: [1, 3]})
        machine.drop([1])
        self.assertEqual((machine.states(), machine.links()), ({2: R}, {2: [1, 3]}))
        self.assertEqual(machine.go(400), run(read("(let (a 1) (b a) (c (Cons b 2)) (first c (first c 7)))")))
        self.assertEqual((machine.states(), machine.links()), ({2: R}, {2: [1, 3]}))

    def test_dropped_before_its_links_were_asked_for(self):
        machine = Machine(read("(let (a 1) (b a) (c 2) (+ c 3))"))
        machine.go(2)
        machine.drop([1])
        self.assertEqual((machine.states(), machine.links()), ({0: W, 2: W}, {0: [], 2: []}))
        machine.go(400)
        self.assertEqual((machine.states(), machine.links()), ({0: W, 2: R}, {0: [], 2: []}))

    def test_numbers_that_are_not_kept_are_passed_over(self):
        machine = Machine(read("(let (a 1) (b 2) (+ b b))"))
        machine.drop([0])
        machine.go(2)
        machine.drop([])
        machine.drop([5, 2, 1000])
        self.assertEqual(machine.states(), states(W, W))
        machine.drop([7, 0, 0, 7])
        machine.drop([0])
        self.assertEqual(machine.states(), {1: W})
        self.assertEqual(machine.go(400)[:2], ("told", "4"))
        machine.drop([0, 1, 2])
        self.assertEqual((machine.states(), machine.links(), machine.roots()), ({}, {}, []))
        self.assertEqual(machine.go(400), run(read("(let (a 1) (b 2) (+ b b))")))

    def test_numbers_are_not_given_again(self):
        text = "(let (a 1) (b 2) ((fun x ((fun y (+ y 1)) (+ 2 x))) (+ 3 4)))"
        machine = Machine(read(text))
        machine.go(1)
        machine.drop([0, 1])
        self.assertEqual(machine.states(), {})
        machine.go(3)
        self.assertEqual(machine.states(), {2: W})
        machine.go(5)
        self.assertEqual(machine.states(), {2: W, 3: W})
        self.assertEqual(machine.go(400), run(read(text)))

    def test_the_list_is_left_as_it_was(self):
        machine = Machine(read("(let (a 1) (b 2) 5)"))
        machine.go(1)
        numbers = [1, 9, 0]
        machine.drop(numbers)
        self.assertEqual(numbers, [1, 9, 0])


class AskersOwn(unittest.TestCase):

    def test_what_is_done_to_what_was_given(self):
        text = "(let (a 1) (b (Cons a b)) (+ a (first b (+ a 1))))"
        machine, untouched = Machine(read(text)), Machine(read(text))
        for steps in range(14):
            with self.subTest(steps):
                self.assertEqual(machine.go(steps), untouched.go(steps))
                kept, links, roots = untouched.states(), untouched.links(), untouched.roots()
                for time in range(2):
                    self.assertEqual((machine.states(), machine.links(), machine.roots()), (kept, links, roots))
                    machine.states()[0] = "gone"
                    machine.states().clear()
                    for given in machine.links().values():
                        given.append(77)
                    machine.links().clear()
                    machine.roots().append(88)
                    machine.roots().clear()

    def test_what_was_given_stays_when_the_machine_goes_on(self):
        machine = Machine(read("(let (a 1) (b (Cons a b)) (+ a (first b (+ a 1))))"))
        machine.go(1)
        kept, links, roots = machine.states(), machine.links(), machine.roots()
        machine.go(400)
        self.assertEqual((kept, links, roots), (states(W, W), {0: [], 1: [0, 1]}, [0, 1]))

    def test_the_forms(self):
        machine = Machine(read("(let (a 1) (b (Cons a b)) (+ a (first b (+ a 1))))"))
        for steps in (0, 1, 7, 400):
            machine.go(steps)
            self.assertEqual([type(given) for given in (machine.states(), machine.links(), machine.roots())],
                             [dict, dict, list])
            for given in machine.links().values():
                self.assertIs(type(given), list)


if __name__ == "__main__":
    unittest.main()
