"""Points 25 to 27: what is reached, a machine tidied up, and runs with tidy-ups."""

import unittest

from idlegraph import machine, tidy
from idlegraph.machine import Machine
from idlegraph.texts import read
from idlegraph.tidy import reached, tidied

# Told at 17 steps. Of its things f is wanted until the 8th step, the second x until the 13th, the first until the 16th.
CALLS = "(let (f (fun x (+ x x))) (f (f 1)))"
ENDLESS = "(let (f (fun x (f x))) (f 1))"


class Reached(unittest.TestCase):

    def check(self, links, roots, told):
        with self.subTest(links=links, roots=roots):
            given = reached(links, roots)
            self.assertIs(type(given), list)
            self.assertEqual(given, told)

    def test_nothing(self):
        self.check({}, [], [])
        self.check({1: [2], 2: [1]}, [], [])
        self.check({}, [1, 2], [])

    def test_roots_alone_in_their_order(self):
        self.check({1: [], 2: [], 3: []}, [2], [(2, None)])
        self.check({1: [], 2: [], 3: []}, [3, 1], [(3, None), (1, None)])
        self.check({1: [], 2: [], 3: []}, [1, 3, 2], [(1, None), (3, None), (2, None)])

    def test_links_in_their_order_with_the_one_that_led_there(self):
        self.check({0: [3, 1], 1: [], 2: [], 3: []}, [0], [(0, None), (3, 0), (1, 0)])
        self.check({0: [1], 1: [2], 2: [3], 3: []}, [0], [(0, None), (1, 0), (2, 1), (3, 2)])
        self.check({5: [4], 4: [6], 6: [], 7: [5]}, [5], [(5, None), (4, 5), (6, 4)])

    def test_going_through_the_list_from_its_begin(self):
        self.check({0: [1, 2], 1: [3], 2: [4], 3: [5], 4: [6], 5: [], 6: []}, [0],
                   [(0, None), (1, 0), (2, 0), (3, 1), (4, 2), (5, 3), (6, 4)])
        self.check({0: [2], 1: [3], 2: [4], 3: [], 4: []}, [1, 0], [(1, None), (0, None), (3, 1), (2, 0), (4, 2)])

    def test_from_the_first_one_that_led_there(self):
        self.check({0: [2, 3], 1: [2], 2: [], 3: [2]}, [1, 0], [(1, None), (0, None), (2, 1), (3, 0)])
        self.check({0: [1, 2], 1: [3], 2: [3], 3: []}, [0], [(0, None), (1, 0), (2, 0), (3, 1)])
        self.check({0: [2, 1], 1: [3], 2: [3], 3: []}, [0], [(0, None), (2, 0), (1, 0), (3, 2)])

    def test_a_root_to_which_a_link_leads(self):
        self.check({0: [1], 1: [0]}, [0, 1], [(0, None), (1, None)])
        self.check({0: [2, 1], 1: [], 2: []}, [0, 1], [(0, None), (1, None), (2, 0)])

    def test_each_once(self):
        self.check({1: [], 2: []}, [1, 1], [(1, None)])
        self.check({1: [2, 2], 2: [1, 1]}, [1, 2, 1, 2, 2], [(1, None), (2, None)])
        self.check({1: [2, 3, 2, 3], 2: [3], 3: [2]}, [1, 1], [(1, None), (2, 1), (3, 1)])

    def test_round(self):
        self.check({4: [4]}, [4], [(4, None)])
        self.check({1: [2], 2: [3], 3: [1], 4: [1]}, [2], [(2, None), (3, 2), (1, 3)])
        self.check({1: [1, 2], 2: [2, 1]}, [2], [(2, None), (1, 2)])

    def test_numbers_that_are_no_key_are_no_things(self):
        self.check({1: [2]}, [1], [(1, None)])
        self.check({1: [9, 2, 8], 2: [7]}, [1], [(1, None), (2, 1)])
        self.check({1: []}, [5, 1, 6], [(1, None)])
        self.check({1: [2], 2: []}, [7, 7], [])

    def test_what_is_not_reached(self):
        self.check({0: [1], 1: [], 2: [0, 1], 3: [2]}, [0], [(0, None), (1, 0)])
        self.check({0: [], 1: [2], 2: [1]}, [0], [(0, None)])

    def test_what_was_handed_in_stays_as_it_was(self):
        links, roots = {3: [2, 2, 9], 2: [3], 1: [1]}, [3, 8, 3]
        given = reached(links, roots)
        self.assertEqual((links, roots), ({3: [2, 2, 9], 2: [3], 1: [1]}, [3, 8, 3]))
        self.assertEqual(given, [(3, None), (2, 3)])
        given.append("more")
        self.assertEqual(reached(links, roots), [(3, None), (2, 3)])
        links[2].append(1)
        self.assertEqual(reached(links, roots), [(3, None), (2, 3), (1, 2)])

    def test_far(self):
        links = {number: [number + 1] for number in range(30000)}
        self.assertEqual(reached(links, [0]), [(0, None)] + [(number, number - 1) for number in range(1, 30000)])


class Tidied(unittest.TestCase):

    # The machine goes to so many steps, is tidied up, and goes on to the end.
    def check(self, text, steps, dropped, kept):
        with self.subTest(text=text, steps=steps):
            one = Machine(read(text))
            one.go(steps)
            self.assertEqual(tidied(one), dropped)
            self.assertEqual(sorted(one.states()), kept)
            self.assertEqual(sorted(one.links()), kept)
            self.assertEqual(tidied(one), [])
            self.assertEqual(one.go(400), machine.run(read(text)))

    def test_numbers_dropped(self):
        self.check(CALLS, 0, [], [])
        self.check(CALLS, 1, [], [0])
        self.check(CALLS, 7, [], [0, 1])
        self.check(CALLS, 8, [0], [1])
        self.check(CALLS, 12, [0], [1, 2])
        self.check(CALLS, 13, [0, 2], [1])
        self.check(CALLS, 16, [0, 1, 2], [])

    def test_things_that_lead_to_one_another(self):
        text = "(let (a (Cons 1 b)) (b (Cons 2 a)) (c (fun x (c a))) (first 0 5))"
        self.check(text, 1, [0, 1, 2], [])
        text = "(let (a (Cons 1 b)) (b (Cons 2 a)) (c (fun x (c a))) (first 0 a))"
        self.check(text, 1, [2], [0, 1])

    def test_rising(self):
        text = "(let (e 5) (d e) (c d) (b c) (a b) (first 3 (first 4 9)))"
        self.check(text, 2, [0, 1, 2, 3, 4], [])

    def test_what_is_reached_by_links_stays(self):
        self.check("(let (a 1) (b a) (c b) (d 7) (first 3 c))", 2, [3], [0, 1, 2])
        self.check("(let (a 1) (b a) (c b) (d 7) (first 3 b))", 2, [2, 3], [0, 1])

    def test_an_ended_machine(self):
        for text, word, dropped in ((CALLS, "told", [0, 1, 2]), ("(let (a 1) (b 2) (+ (stop w) b))", "stop", [0]),
                                    ("(let (a 1) (b 2) (b a))", "stuck", [1]), ("(let (a (+ a c)) (b a) (c 1) a)", "ring", [1])):
            with self.subTest(text):
                one = Machine(read(text))
                outcome = one.go(400)
                self.assertEqual(outcome[0], word)
                self.assertEqual(tidied(one), dropped)
                self.assertEqual(tidied(one), [])
                self.assertEqual(one.go(400), outcome)

    def test_what_is_given_is_the_asker_s_own(self):
        one = Machine(read(CALLS))
        one.go(8)
        dropped = tidied(one)
        self.assertIs(type(dropped), list)
        dropped.append(1)
        self.assertEqual(one.states(), {1: "under way"})
        self.assertEqual(one.go(400), machine.run(read(CALLS)))


class Runs(unittest.TestCase):

    def check(self, text, every, most, tidy_ups):
        with self.subTest(text=text, every=every, most=most):
            given = tidy.run(read(text), every, 8, most)
            self.assertIs(type(given), tuple)
            self.assertIs(type(given[1]), list)
            self.assertEqual(given, (machine.run(read(text), 8, most), tidy_ups))

    def test_every_step(self):
        self.check(CALLS, 1, 400, [
            (1, ()), (2, ()), (3, ()), (4, ()), (5, ()), (6, ()), (7, ()), (8, (0,)), (9, ()), (10, ()), (11, ()), (12, ()),
            (13, (2,)), (14, ()), (15, ()), (16, (1,))])

    def test_every_so_many_steps(self):
        self.check(CALLS, 2, 400, [(2, ()), (4, ()), (6, ()), (8, (0,)), (10, ()), (12, ()), (14, (2,)), (16, (1,))])
        self.check(CALLS, 3, 400, [(3, ()), (6, ()), (9, (0,)), (12, ()), (15, (2,))])
        self.check(CALLS, 4, 400, [(4, ()), (8, (0,)), (12, ()), (16, (1, 2))])
        self.check(CALLS, 7, 400, [(7, ()), (14, (0, 2))])
        self.check(CALLS, 16, 400, [(16, (0, 1, 2))])

    def test_none_where_no_step_is_due(self):
        self.check(CALLS, 17, 400, [])
        # Each of these has ended at just that number of steps, though there are things that a tidy-up would drop.
        for text, word in (("(let (a 1) (first 1 (first a 2)))", "told"), ("(let (a 1) (b 2) (+ a (stop w)))", "stop"),
                           ("(let (a 1) (b 2) (first 1 (2 a)))", "stuck"), ("(let (a (+ a 1)) (b a) a)", "ring")):
            steps = machine.run(read(text))[2][0]
            self.assertEqual(machine.run(read(text))[0], word)
            self.check(text, steps, 400, [])
            self.check(text, steps + 1, 400, [])
            self.assertEqual([row[0] for row in tidy.run(read(text), steps - 1)[1]], [steps - 1])

    def test_a_run_that_ends_before_the_first(self):
        self.check(CALLS, 18, 400, [])
        self.check(CALLS, 100000, 400, [])
        self.check("7", 1, 400, [])
        self.check("(stop w)", 1, 400, [])
        self.check("(+ 1 2)", 3, 400, [])
        self.check("(1 2)", 1, 400, [])

    def test_none_at_no_steps_and_none_at_the_most(self):
        self.check(CALLS, 8, 8, [])
        self.check(CALLS, 8, 7, [])
        self.check(CALLS, 8, 9, [(8, (0,))])
        self.check(CALLS, 4, 12, [(4, ()), (8, (0,))])
        self.check(CALLS, 4, 13, [(4, ()), (8, (0,)), (12, ())])
        self.check(CALLS, 1, 0, [])
        self.check(CALLS, 1, 1, [])
        self.check(CALLS, 1, 2, [(1, ())])
        self.check(ENDLESS, 100, 400, [(100, ()), (200, ()), (300, ())])
        self.check(ENDLESS, 400, 400, [])
        self.check(ENDLESS, 399, 400, [(399, ())])

    def test_depth_and_most_left_out(self):
        self.assertEqual(tidy.run(read(CALLS), 4), tidy.run(read(CALLS), 4, 8, 400))
        self.assertEqual(tidy.run(read(ENDLESS), 150), (machine.run(read(ENDLESS)), [(150, ()), (300, ())]))
        ones = read("(let (ones (Cons 1 ones)) ones)")
        self.assertEqual(tidy.run(ones, 4)[0][1], "(Cons 1 " * 7 + "(Cons ? ?)" + ")" * 7)
        self.assertEqual(tidy.run(ones, 4, 2), tidy.run(ones, 4, 2, 400))
        self.assertEqual(tidy.run(term=ones, every=3, depth=3, most=6), (machine.run(ones, 3, 6), [(3, ())]))

    def test_depths(self):
        nats = read("(let (nats (fun n (Cons n (nats (+ n 1))))) (nats 0))")
        for depth in (0, 1, 2, 8, 40):
            for every in (1, 5):
                self.assertEqual(tidy.run(nats, every, depth, 100000)[0], machine.run(nats, depth, 100000))
        self.assertEqual(tidy.run(nats, 1, 0), (("told", "?", (0, 0, 0), []), []))

    def test_things_that_lead_round_are_dropped_too(self):
        text = "(let (f (fun n (let (h (fun u (choose (= u 0) (No (h (- u 1))) (Yes u)))) (first (h n) (f n))))) (f 1))"
        outcome, tidy_ups = tidy.run(read(text), 10, 8, 2000)
        self.assertEqual(outcome, machine.run(read(text), 8, 2000))
        dropped = [number for steps, numbers in tidy_ups for number in numbers]
        labels = {row[1]: row[2] for row in outcome[3]}
        self.assertEqual(len(dropped), len(set(dropped)))
        self.assertGreater(len([number for number in dropped if labels[number] == "h"]), 50)
        # But for the first tidy-ups and what came behind the last one, all of them.
        self.assertGreater(len(dropped), len(labels) - 10)

    def test_what_is_given_is_the_asker_s_own(self):
        term = read(CALLS)
        given = tidy.run(term, 4)
        given[1].clear()
        given[0][3].clear()
        self.assertEqual(tidy.run(term, 4)[1], [(4, ()), (8, (0,)), (12, ()), (16, (1, 2))])
        self.assertEqual(tidy.run(term, 4)[0], machine.run(term))
        self.assertEqual(term, read(CALLS))

    def test_a_hundred_thousand_steps(self):
        counting = "(let (f (fun n (choose (= n 0) (No (f (- n 1))) (Yes 0)))) (f 100000))"
        for text in (ENDLESS, counting):
            for every in (1, 16, 100000):
                with self.subTest(text=text, every=every):
                    outcome, tidy_ups = tidy.run(read(text), every, 40, 100000)
                    self.assertEqual(outcome[:2] + outcome[2][:1], ("spent", "", 100000))
                    self.assertEqual([row[0] for row in tidy_ups], list(range(every, 100000, every)))
        growing = "(let (f (fun n (+ 1 (f (+ n 1))))) (f 0))"
        outcome, tidy_ups = tidy.run(read(growing), 1000, 8, 100000)
        self.assertEqual(outcome, machine.run(read(growing), 8, 100000))
        self.assertEqual(tidy_ups, [(steps, ()) for steps in range(1000, 100000, 1000)])

    def test_terms_at_the_bounds(self):
        layer = ["x"] * 199
        while len(layer) > 1:
            pairs = [f"(+ {layer[k]} {layer[k + 1]})" for k in range(0, len(layer) - 1, 2)]
            layer = pairs + layer[len(layer) // 2 * 2:]
        # It is told at 794 steps, and its only thing wanted until a few steps before.
        self.check(f"(let (x 1) {layer[0]})", 16, 1000, [(steps, ()) for steps in range(16, 794, 16)])
        self.check(f"(let (x 1) {layer[0]})", 793, 1000, [(793, (0,))])
        deep = ("name", "x")
        for level in range(200):
            deep = ("first", ("name", "x"), deep)
        deep = ("let", (("y", ("number", 4)),), ("call", ("fun", "x", deep), ("number", 5)))
        outcome, tidy_ups = tidy.run(deep, 100, 8, 1000)
        self.assertEqual(outcome[:3], ("told", "5", (604, 0, 200)))
        self.assertEqual(tidy_ups, [(100, (0,)), (200, ()), (300, ()), (400, ()), (500, ()), (600, ())])

    def test_below_one_nothing_is_tidied_up(self):
        for every in (0, -1, -16):
            self.check(CALLS, every, 400, [])


if __name__ == "__main__":
    unittest.main()
