"""Points 12 and 17 to 20: the machine's runs, in which a thing is reckoned once and then gives its value."""

import unittest

from idlegraph import names
from idlegraph.machine import Machine, run
from idlegraph.terms import depth, parts
from idlegraph.texts import read

ONES = "(let (ones (Cons 1 ones)) ones)"
NATS = "(let (nats (fun n (Cons n (nats (+ n 1))))) (nats 0))"
ENDLESS = "(let (f (fun x (f x))) (f 1))"
TWICE = "(let (x (+ 1 2)) (+ x x))"


def many(term):
    return 1 + sum(many(part) for part in parts(term))


class Again(unittest.TestCase):

    def check(self, text, depth, outcome):
        with self.subTest(text):
            self.assertEqual(run(read(text), depth), outcome)

    def test_a_thing_wanted_twice_is_entered_once(self):
        self.check(TWICE, 8, ("told", "6", (9, 0, 0), [
            ("born", 0, "x", 1), ("enter", 0, "x", 3), ("back", 0, "x", 6), ("again", 0, "x", 8)]))

    def test_three_times(self):
        self.check("(let (x (+ 1 2)) (+ x (+ x x)))", 8, ("told", "9", (13, 0, 0), [
            ("born", 0, "x", 1), ("enter", 0, "x", 3), ("back", 0, "x", 6), ("again", 0, "x", 9),
            ("again", 0, "x", 11)]))

    def test_by_a_fun_s_name(self):
        self.check("((fun x (+ x x)) (+ 1 2))", 8, ("told", "6", (10, 0, 0), [
            ("born", 0, "x", 2), ("enter", 0, "x", 4), ("back", 0, "x", 7), ("again", 0, "x", 9)]))

    def test_by_first(self):
        self.check("(let (x (Cons 1 Nil)) (first x (first x x)))", 1, ("told", "(Cons ? ?)", (9, 1, 2), [
            ("born", 0, "x", 1), ("enter", 0, "x", 3), ("born", 1, "Cons.1", 4), ("born", 2, "Cons.2", 4),
            ("back", 0, "x", 4), ("again", 0, "x", 7), ("again", 0, "x", 9)]))

    def test_a_part_of_an_answer(self):
        self.check("(let (x (+ 1 1)) (Pair x x))", 2, ("told", "(Pair 2 2)", (7, 0, 0), [
            ("born", 0, "x", 1), ("enter", 0, "x", 3), ("back", 0, "x", 6), ("again", 0, "x", 7)]))

    def test_an_endless_list_of_one_cell(self):
        self.check(ONES, 3, ("told", "(Cons 1 (Cons 1 (Cons ? ?)))", (7, 1, 0), [
            ("born", 0, "ones", 1), ("enter", 0, "ones", 2), ("born", 1, "Cons.1", 3), ("back", 0, "ones", 3),
            ("enter", 1, "Cons.1", 4), ("back", 1, "Cons.1", 4), ("again", 0, "ones", 5), ("again", 1, "Cons.1", 6),
            ("again", 0, "ones", 7)]))

    def test_within_another_thing_that_is_under_way(self):
        self.check("(let (f (fun x (+ x x))) (f (f 1)))", 8, ("told", "4", (17, 0, 0), [
            ("born", 0, "f", 1), ("enter", 0, "f", 3), ("back", 0, "f", 3), ("born", 1, "x", 4), ("enter", 1, "x", 6),
            ("again", 0, "f", 8), ("born", 2, "x", 9), ("enter", 2, "x", 11), ("back", 2, "x", 11),
            ("again", 2, "x", 13), ("back", 1, "x", 14), ("again", 1, "x", 16)]))

    def test_a_thing_that_is_not_wanted_is_not_entered(self):
        self.check("(let (x (stop a)) (y (+ 1 2)) 5)", 8, ("told", "5", (1, 0, 0), [
            ("born", 0, "x", 1), ("born", 1, "y", 1)]))

    def test_no_thing_is_entered_twice(self):
        text = "(let (f (fun n (choose (< n 2) (No (+ (f (- n 1)) (f (- n 2)))) (Yes n)))) (f 9))"
        log = run(read(text), 8, 100000)[3]
        entered = [row[1] for row in log if row[0] == "enter"]
        back = [row[1] for row in log if row[0] == "back"]
        self.assertEqual(len(entered), len(set(entered)))
        self.assertEqual(sorted(back), sorted(entered))
        self.assertGreater(len([row for row in log if row[0] == "again"]), 100)


class TextsAndValues(unittest.TestCase):

    # States, with the texts' and values' links, between two goings.
    def check(self, text, *rows):
        machine = Machine(read(text))
        for steps, states, links in rows:
            with self.subTest(text=text, steps=steps):
                machine.go(steps)
                self.assertEqual(machine.states(), states)
                self.assertEqual(machine.links(), links)

    def test_waiting_then_under_way_then_ready(self):
        self.check(TWICE, (0, {}, {}), (1, {0: "waiting"}, {0: []}), (2, {0: "waiting"}, {0: []}),
                   (3, {0: "under way"}, {0: []}), (5, {0: "under way"}, {0: []}), (6, {0: "ready"}, {0: []}),
                   (8, {0: "ready"}, {0: []}), (9, {0: "ready"}, {0: []}))

    def test_a_text_that_is_a_mark(self):
        text = "(let (x (+ 1 2)) (y x) (+ y y))"
        self.assertEqual(run(read(text)), ("told", "6", (10, 0, 0), [
            ("born", 0, "x", 1), ("born", 1, "y", 1), ("enter", 1, "y", 3), ("enter", 0, "x", 4), ("back", 0, "x", 7),
            ("back", 1, "y", 7), ("again", 1, "y", 9)]))
        self.check(text, (2, {0: "waiting", 1: "waiting"}, {0: [], 1: [0]}),
                   (3, {0: "waiting", 1: "under way"}, {0: [], 1: []}),
                   (4, {0: "under way", 1: "under way"}, {0: [], 1: []}), (7, {0: "ready", 1: "ready"}, {0: [], 1: []}))

    def test_a_text_that_is_the_mark_of_a_ready_thing(self):
        self.assertEqual(run(read("(let (x 1) (y x) (+ x y))")), ("told", "2", (7, 0, 0), [
            ("born", 0, "x", 1), ("born", 1, "y", 1), ("enter", 0, "x", 3), ("back", 0, "x", 3), ("enter", 1, "y", 5),
            ("again", 0, "x", 6), ("back", 1, "y", 6)]))

    def test_a_mark_that_is_given_or_a_part_bears_no_thing(self):
        self.assertEqual(run(read("(let (x 1) ((fun y (Pair y y)) x))"), 1),
                         ("told", "(Pair ? ?)", (4, 0, 0), [("born", 0, "x", 1)]))

    def test_a_ready_number(self):
        self.check("(let (x 7) (+ x x))", (2, {0: "waiting"}, {0: []}), (3, {0: "ready"}, {0: []}))
        self.assertEqual(run(read("(let (x 7) (+ x x))"))[:3], ("told", "14", (6, 0, 0)))

    def test_a_ready_fun(self):
        text = "(let (y 3) (f (fun x (+ x y))) (+ (f 1) (f 2)))"
        self.check(text, (1, {0: "waiting", 1: "waiting"}, {0: [], 1: [0]}),
                   (4, {0: "waiting", 1: "ready"}, {0: [], 1: [0]}))
        self.assertEqual(run(read(text)), ("told", "9", (20, 0, 0), [
            ("born", 0, "y", 1), ("born", 1, "f", 1), ("enter", 1, "f", 4), ("back", 1, "f", 4), ("born", 2, "x", 5),
            ("enter", 2, "x", 7), ("back", 2, "x", 7), ("enter", 0, "y", 9), ("back", 0, "y", 9), ("again", 1, "f", 13),
            ("born", 3, "x", 14), ("enter", 3, "x", 16), ("back", 3, "x", 16), ("again", 0, "y", 18)]))

    def test_a_fun_that_comes_of_a_call_is_ready_once(self):
        self.assertEqual(run(read("(let (f ((fun a (fun b a)) 5)) (+ (f 1) (f 2)))")), ("told", "10", (14, 0, 0), [
            ("born", 0, "f", 1), ("enter", 0, "f", 4), ("born", 1, "a", 6), ("back", 0, "f", 6), ("born", 2, "b", 7),
            ("enter", 1, "a", 8), ("back", 1, "a", 8), ("again", 0, "f", 11), ("born", 3, "b", 12),
            ("again", 1, "a", 13)]))

    def test_a_ready_made_shape(self):
        text = "(let (p (Pair (+ 1 2) Nil)) (choose p (Pair a b (choose p (Pair c d (+ a c))))))"
        self.check(text, (1, {0: "waiting"}, {0: []}), (3, {0: "under way"}, {0: []}),
                   (4, {0: "ready", 1: "waiting", 2: "waiting"}, {0: [1, 2], 1: [], 2: []}))
        self.assertEqual(run(read(text)), ("told", "6", (16, 0, 0), [
            ("born", 0, "p", 1), ("enter", 0, "p", 3), ("born", 1, "Pair.1", 4), ("born", 2, "Pair.2", 4),
            ("back", 0, "p", 4), ("again", 0, "p", 7), ("enter", 1, "Pair.1", 10), ("back", 1, "Pair.1", 13),
            ("again", 1, "Pair.1", 15)]))

    def test_a_made_shape_without_parts(self):
        self.assertEqual(run(read("(let (t (< 1 2)) (choose t (No 0) (Yes (choose t (No 1) (Yes 2)))))")),
                         ("told", "2", (10, 0, 0), [("born", 0, "t", 1), ("enter", 0, "t", 3), ("back", 0, "t", 6),
                                                    ("again", 0, "t", 9)]))


class AsByNames(unittest.TestCase):

    def test_where_nothing_is_wanted_twice_the_runs_are_alike(self):
        for text in ("7", "(fun x x)", "Nil", "(+ 1 2)", "(- 0 1)", "(* 1000000000 1000000000)", "(< 1 2)", "(= 1 2)",
                     "((fun x x) 5)", "(first Nil 2)", "(choose (Cons 1 Nil) (Nil 0) (Cons a b a))", "(Pair 1 (Cons 2 Nil))",
                     "(let (x 1) x)", "(stop a)", "(+ 1 (stop b))", "(let (x (stop c)) (first x 1))", "(Cons 1 (stop a))",
                     "(1 2)", "(+ 1 Yes)", "(choose Yes (Pair a b a))", "(let (x Yes) (+ x 1))"):
            for depth in (0, 1, 2, 8):
                for most in (0, 1, 2, 3, 400):
                    with self.subTest(text=text, depth=depth, most=most):
                        self.assertEqual(run(read(text), depth, most), names.run(read(text), depth, most))

    def test_the_ends_with_the_same_words_in_fewer_steps(self):
        for text, word, what, steps in (
                ("(let (x (+ 1 2)) (y (+ x x)) (+ y y))", "told", "12", 14),
                ("(let (x (+ 1 2)) (first x (first x (stop done))))", "stop", "done", 10),
                ("(let (x (+ 1 2)) (first x (x 1)))", "stuck", "", 9)):
            with self.subTest(text):
                outcome, by_names = run(read(text)), names.run(read(text))
                self.assertEqual(outcome[:2], (word, what))
                self.assertEqual(by_names[:2], (word, what))
                self.assertEqual(outcome[2][0], steps)
                self.assertGreater(by_names[2][0], steps)


class Outcomes(unittest.TestCase):

    def test_the_forms(self):
        for text, word, kind in (("(Cons 1 2)", "told", str), ("(first Nil (stop a))", "stop", str), ("(1 2)", "stuck", str),
                                 (ENDLESS, "spent", str), ("(let (x x) x)", "ring", tuple)):
            with self.subTest(text):
                outcome = run(read(text))
                self.assertEqual((type(outcome), len(outcome), outcome[0]), (tuple, 4, word))
                self.assertIs(type(outcome[1]), kind)
                self.assertIs(type(outcome[2]), tuple)
                self.assertEqual([type(count) for count in outcome[2]], [int, int, int])
                self.assertIs(type(outcome[3]), list)
                for row in outcome[3]:
                    self.assertIs(type(row), tuple)
                    self.assertEqual([type(part) for part in row], [str, int, str, int])

    def test_depth_and_most_left_out(self):
        self.assertEqual(run(read(ONES)), run(read(ONES), 8, 400))
        self.assertEqual(run(read(ONES))[1], "(Cons 1 " * 7 + "(Cons ? ?)" + ")" * 7)
        self.assertEqual(run(read(ENDLESS))[:3], ("spent", "", (400, 0, 0)))
        self.assertEqual(run(term=read(ONES), depth=2, most=4)[:3], ("spent", "", (4, 1, 0)))
        self.assertEqual(Machine(read(ONES)).go(400), run(read(ONES), 8, 400))
        self.assertEqual(Machine(term=read(ONES), depth=2).go(most=400), run(read(ONES), 2, 400))

    def test_two_machines_of_one_term(self):
        term = read(TWICE)
        one, other = Machine(term), Machine(term)
        one.go(400)
        self.assertEqual(other.states(), {})
        self.assertEqual(other.go(1)[2], (1, 0, 0))
        self.assertEqual(one.go(400)[:2], ("told", "6"))

    def test_what_is_given_is_the_asker_s_own(self):
        term = read("(let (x (+ 1 2)) (Cons x (Cons x Nil)))")
        given = run(term)
        again = run(term)
        given[3].clear()
        self.assertNotEqual(again[3], [])
        again[3].append("more")
        self.assertEqual(run(term)[3], again[3][:-1])
        self.assertEqual(term, read("(let (x (+ 1 2)) (Cons x (Cons x Nil)))"))


class Bounds(unittest.TestCase):

    def test_no_depth_and_no_steps(self):
        for text in (ENDLESS, "(stop a)", "(1 2)", "(let (x x) x)", ONES, "7"):
            for most in (0, 1, 400):
                with self.subTest(text=text, most=most):
                    self.assertEqual(run(read(text), 0, most), ("told", "?", (0, 0, 0), []))
        self.assertEqual(run(read(ONES), 8, 0), ("spent", "", (0, 0, 0), []))
        self.assertEqual(run(read("7"), 8, 0), ("told", "7", (0, 0, 0), []))
        self.assertEqual(run(read("(stop a)"), 8, 0), ("stop", "a", (0, 0, 0), []))

    def test_a_hundred_thousand_steps(self):
        counting = "(let (f (fun n (choose (= n 0) (No (f (- n 1))) (Yes 0)))) (f 100000))"
        waiting = "(let (f (fun n (f (+ n 1)))) (f 0))"
        piling = "(let (f (fun n (+ 1 (f (+ n 1))))) (f 0))"
        for text in (ENDLESS, counting, waiting, piling):
            with self.subTest(text):
                outcome = run(read(text), 40, 100000)
                self.assertEqual(outcome[:2], ("spent", ""))
                self.assertEqual(outcome[2][0], 100000)

    def test_a_way_back_from_far_within(self):
        text = "(let (f (fun n (choose (= n 0) (No (+ 1 (f (- n 1)))) (Yes 0)))) (f {}))"
        for many_times in (90, 5000):
            self.assertEqual(run(read(text.format(many_times)), 8, 100000)[:2], ("told", str(many_times)))

    def test_a_value_behind_a_long_row_of_waiting_things(self):
        text = "(let (f (fun n m (choose (= n 0) (No (f (- n 1) (+ m 1))) (Yes m)))) (f 3000 0))"
        self.assertEqual(run(read(text), 8, 100000)[:2], ("told", "3000"))

    def test_depth_forty(self):
        wanted = "(Cons ? ?)"
        for number in range(38, -1, -1):
            wanted = f"(Cons {number} {wanted})"
        self.assertEqual(run(read(NATS), 40, 100000)[:2], ("told", wanted))
        self.assertEqual(run(read(ONES), 40)[:2], ("told", "(Cons 1 " * 39 + "(Cons ? ?)" + ")" * 39))

    def test_four_hundred_parts(self):
        layer = ["x"] * 199
        while len(layer) > 1:
            pairs = [f"(+ {layer[k]} {layer[k + 1]})" for k in range(0, len(layer) - 1, 2)]
            layer = pairs + layer[len(layer) // 2 * 2:]
        term = read(f"(let (x 1) {layer[0]})")
        self.assertEqual(many(term), 399)
        outcome = run(term, 8, 1000)
        # The let, three steps for each of 198 additions, and one for each of 199 marks.
        self.assertEqual(outcome[:3], ("told", "199", (1 + 3 * 198 + 199, 0, 0)))

    def test_depth_twenty_four(self):
        term = ("first", ("name", "n10"), ("name", "n0"))
        for level in range(11):
            term = ("call", ("fun", f"n{10 - level}", term), ("number", level))
        self.assertEqual(depth(term), 24)
        self.assertEqual(run(term)[:3], ("told", "10", (26, 0, 1)))

    def test_deeper_terms_such_as_the_program_makes(self):
        term = ("name", "x")
        for level in range(200):
            term = ("first", ("name", "x"), term)
        term = ("call", ("fun", "x", term), ("number", 5))
        self.assertEqual(run(term, 8, 1000)[:3], ("told", "5", (603, 0, 200)))


if __name__ == "__main__":
    unittest.main()
