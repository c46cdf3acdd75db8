"""Points 15 to 17, by names: what is told and to what depth, the ends of a run, and the outcome."""

import unittest

from idlegraph.names import run
from idlegraph.terms import depth, parts
from idlegraph.texts import read

ONES = "(let (ones (Cons 1 ones)) ones)"
NATS = "(let (nats (fun n (Cons n (nats (+ n 1))))) (nats 0))"
TREE = "(let (tree (Pair tree tree)) tree)"
ENDLESS = "(let (f (fun x (f x))) (f 1))"


def many(term):
    return 1 + sum(many(part) for part in parts(term))


class Answers(unittest.TestCase):

    def answers(self, text, *wanted):
        for asked, what in wanted:
            with self.subTest(text=text, depth=asked):
                outcome = run(read(text), asked, 2000)
                self.assertEqual(outcome[:2], ("told", what))

    def test_values_without_parts(self):
        for text, what in (("12", "12"), ("(fun x x)", "fun"), ("Nil", "Nil"), ("No", "No"), ("Yes", "Yes")):
            self.answers(text, (0, "?"), (1, what), (2, what), (40, what))

    def test_a_list(self):
        self.answers("(Cons 1 (Cons 2 (Cons 3 Nil)))", (0, "?"), (1, "(Cons ? ?)"), (2, "(Cons 1 (Cons ? ?))"),
                     (3, "(Cons 1 (Cons 2 (Cons ? ?)))"), (4, "(Cons 1 (Cons 2 (Cons 3 Nil)))"),
                     (5, "(Cons 1 (Cons 2 (Cons 3 Nil)))"), (40, "(Cons 1 (Cons 2 (Cons 3 Nil)))"))

    def test_pairs_that_are_deeper_on_one_side(self):
        self.answers("(Pair 1 (Pair (fun x x) (Cons Yes Nil)))", (1, "(Pair ? ?)"), (2, "(Pair 1 (Pair ? ?))"),
                     (3, "(Pair 1 (Pair fun (Cons ? ?)))"), (4, "(Pair 1 (Pair fun (Cons Yes Nil)))"))
        self.answers("(Pair (Pair (Pair 1 2) 3) 4)", (1, "(Pair ? ?)"), (2, "(Pair (Pair ? ?) 4)"),
                     (3, "(Pair (Pair (Pair ? ?) 3) 4)"), (4, "(Pair (Pair (Pair 1 2) 3) 4)"))

    def test_depth_is_counted_anew_for_each_part(self):
        self.answers("(Pair (Cons 1 (Cons 2 Nil)) (Cons 3 (Cons 4 Nil)))",
                     (2, "(Pair (Cons ? ?) (Cons ? ?))"), (3, "(Pair (Cons 1 (Cons ? ?)) (Cons 3 (Cons ? ?)))"),
                     (4, "(Pair (Cons 1 (Cons 2 Nil)) (Cons 3 (Cons 4 Nil)))"))

    def test_endless_lists(self):
        self.answers(ONES, (0, "?"), (1, "(Cons ? ?)"), (2, "(Cons 1 (Cons ? ?))"),
                     (40, "(Cons 1 " * 39 + "(Cons ? ?)" + ")" * 39))
        self.answers(NATS, (0, "?"), (1, "(Cons ? ?)"), (2, "(Cons 0 (Cons ? ?))"), (4, "(Cons 0 (Cons 1 (Cons 2 (Cons ? ?))))"))

    def test_an_endless_tree(self):
        self.answers(TREE, (2, "(Pair (Pair ? ?) (Pair ? ?))"),
                     (3, "(Pair (Pair (Pair ? ?) (Pair ? ?)) (Pair (Pair ? ?) (Pair ? ?)))"))

    def test_what_is_wanted_to_depth_nothing_is_not_run(self):
        for text in (ENDLESS, "(stop a)", "(1 2)", "(+ 1 2)", ONES, "(Cons 1 2)", "7", "(fun x x)"):
            with self.subTest(text):
                for most in (0, 1, 400):
                    self.assertEqual(run(read(text), 0, most), ("told", "?", (0, 0, 0), []))
        self.answers("(Cons (stop a) (stop b))", (0, "?"), (1, "(Cons ? ?)"))
        self.answers("(Pair 1 (Pair (stop a) (1 2)))", (2, "(Pair 1 (Pair ? ?))"))
        self.assertEqual(run(read("(Cons (+ 1 2) (stop b))"), 1),
                         ("told", "(Cons ? ?)", (1, 1, 0), [("born", 0, "Cons.1", 1), ("born", 1, "Cons.2", 1)]))

    def test_the_first_part_with_all_within_before_the_second(self):
        self.assertEqual(run(read("(Pair (Pair 1 (stop a)) (stop b))"), 3)[:2], ("stop", "a"))
        self.assertEqual(run(read("(Pair (Pair (stop a) 1) (stop b))"), 2)[:2], ("stop", "b"))
        self.assertEqual(run(read("(Pair (stop a) (stop b))"), 2)[:2], ("stop", "a"))
        log = run(read("(Pair (Pair 1 2) (Pair 3 4))"), 3)[3]
        self.assertEqual([row[1:3] for row in log if row[0] == "enter"],
                         [(0, "Pair.1"), (2, "Pair.1"), (3, "Pair.2"), (1, "Pair.2"), (4, "Pair.1"), (5, "Pair.2")])

    def test_a_part_is_run_when_it_is_its_turn(self):
        self.assertEqual(run(read("(Cons 1 (Cons (+ 1 1) Nil))"), 3), ("told", "(Cons 1 (Cons 2 Nil))", (10, 2, 0), [
            ("born", 0, "Cons.1", 1), ("born", 1, "Cons.2", 1), ("enter", 0, "Cons.1", 2), ("back", 0, "Cons.1", 2),
            ("enter", 1, "Cons.2", 3), ("born", 2, "Cons.1", 4), ("born", 3, "Cons.2", 4), ("back", 1, "Cons.2", 4),
            ("enter", 2, "Cons.1", 5), ("back", 2, "Cons.1", 8), ("enter", 3, "Cons.2", 9), ("back", 3, "Cons.2", 10)]))

    def test_a_part_that_is_told_twice_is_run_twice(self):
        self.assertEqual(run(read("(let (x (+ 1 1)) (Pair x x))"), 2), ("told", "(Pair 2 2)", (10, 0, 0), [
            ("born", 0, "x", 1), ("enter", 0, "x", 3), ("back", 0, "x", 6), ("enter", 0, "x", 7), ("back", 0, "x", 10)]))


class Stops(unittest.TestCase):

    def check(self, text, word, counts, log):
        with self.subTest(text):
            self.assertEqual(run(read(text)), ("stop", word, counts, log))

    def test_by_itself(self):
        self.check("(stop halt)", "halt", (0, 0, 0), [])

    def test_with_frames_on_the_pile(self):
        self.check("((stop a) 1)", "a", (1, 0, 0), [])
        self.check("(+ (stop a) 1)", "a", (1, 0, 0), [])
        self.check("(+ 1 (stop a))", "a", (2, 0, 0), [])
        self.check("(choose (stop a) (No 1) (Yes 2))", "a", (1, 0, 0), [])
        self.check("(first (stop a) 1)", "a", (1, 0, 1), [])
        self.check("(first 1 (stop a))", "a", (2, 0, 1), [])

    def test_in_a_thing(self):
        self.check("(let (x (stop a)) x)", "a", (2, 0, 0), [("born", 0, "x", 1), ("enter", 0, "x", 2)])

    def test_in_a_part_that_is_told(self):
        self.check("(Cons 1 (stop a))", "a", (3, 1, 0), [
            ("born", 0, "Cons.1", 1), ("born", 1, "Cons.2", 1), ("enter", 0, "Cons.1", 2), ("back", 0, "Cons.1", 2),
            ("enter", 1, "Cons.2", 3)])

    def test_a_word_that_is_bound_as_a_name(self):
        self.check("(let (x 1) (stop x))", "x", (1, 0, 0), [("born", 0, "x", 1)])

    def test_the_first_one_that_is_come_to(self):
        self.check("(+ (stop a) (stop b))", "a", (1, 0, 0), [])


class Stuck(unittest.TestCase):

    def check(self, text, steps, log=()):
        with self.subTest(text):
            self.assertEqual(run(read(text)), ("stuck", "", (steps, 0, 0), list(log)))
            # Being stuck is no step, and being spent comes only where a step is due.
            self.assertEqual(run(read(text), 8, steps)[0], "stuck")
            self.assertEqual(run(read(text), 8, steps - 1)[0], "spent")

    def test_what_is_called_is_no_fun(self):
        self.check("(1 2)", 1)
        self.check("(Nil 0)", 2)
        self.check("((Pair 1 2) 0)", 2, [("born", 0, "Pair.1", 2), ("born", 1, "Pair.2", 2)])
        self.check("((fun x 1) 2 3)", 3, [("born", 0, "x", 3)])

    def test_what_is_reckoned_is_no_number(self):
        for op in "+-*<=":
            self.check(f"({op} (fun x x) 1)", 1)
            self.check(f"({op} Yes 1)", 2)
            self.check(f"({op} 1 (fun x x))", 2)
            self.check(f"({op} 1 Nil)", 3)
            self.check(f"({op} 1 (< 1 2))", 5)

    def test_what_is_chosen_by_is_no_made_shape(self):
        for alternatives in ("(Nil 1) (Cons a b 2)", "(No 1) (Yes 2)", "(Pair a b 1)"):
            self.check(f"(choose 1 {alternatives})", 1)
            self.check(f"(choose (fun x x) {alternatives})", 1)

    def test_a_made_shape_with_no_alternative_of_its_own(self):
        for shape, alternatives in (
                ("Yes", "(Nil 1) (Cons a b 2)"), ("No", "(Nil 1) (Cons a b 2)"), ("Nil", "(No 1) (Yes 2)"),
                ("Nil", "(Pair a b 1)"), ("Yes", "(Pair a b 1)")):
            self.check(f"(choose {shape} {alternatives})", 2)
        self.check("(choose (Pair 1 2) (Nil 1) (Cons a b 2))", 2, [("born", 0, "Pair.1", 2), ("born", 1, "Pair.2", 2)])
        self.check("(choose (Pair 1 2) (No 1) (Yes 2))", 2, [("born", 0, "Pair.1", 2), ("born", 1, "Pair.2", 2)])
        log = [("born", 0, "Cons.1", 2), ("born", 1, "Cons.2", 2)]
        self.assertEqual(run(read("(choose (Cons 1 Nil) (Pair a b a))")), ("stuck", "", (2, 1, 0), log))
        self.assertEqual(run(read("(choose (Cons 1 Nil) (No 1) (Yes 1))")), ("stuck", "", (2, 1, 0), log))

    def test_behind_a_way_back(self):
        self.check("(let (x Yes) (+ x 1))", 4, [("born", 0, "x", 1), ("enter", 0, "x", 3), ("back", 0, "x", 4)])

    def test_in_a_part_that_is_told(self):
        self.check("(Pair 1 (+ Yes 1))", 5, [
            ("born", 0, "Pair.1", 1), ("born", 1, "Pair.2", 1), ("enter", 0, "Pair.1", 2), ("back", 0, "Pair.1", 2),
            ("enter", 1, "Pair.2", 3)])

    def test_not_where_no_frame_wants_another_value(self):
        self.assertEqual(run(read("(Cons 1 2)"), 3)[:2], ("told", "(Cons 1 2)"))
        self.assertEqual(run(read("(first (fun x x) Yes)"), 3)[:2], ("told", "Yes"))


class Spent(unittest.TestCase):

    def test_as_many_steps_as_are_needed_one_less_one_more(self):
        for text, what, needed in (("(+ 1 2)", "3", 3), ("Nil", "Nil", 1), ("((fun x x) 5)", "5", 3),
                                   ("(Cons 1 (Cons 2 Nil))", "(Cons 1 (Cons 2 Nil))", 7)):
            with self.subTest(text):
                self.assertEqual(run(read(text), 8, needed)[:2], ("told", what))
                self.assertEqual(run(read(text), 8, needed + 1), run(read(text), 8, needed))
                self.assertEqual(run(read(text), 8, needed - 1)[:2], ("spent", ""))
                self.assertEqual(run(read(text), 8, needed - 1)[2][0], needed - 1)

    def test_no_steps(self):
        for text, what in (("7", "7"), ("(fun x x)", "fun")):
            self.assertEqual(run(read(text), 8, 0), ("told", what, (0, 0, 0), []))
        self.assertEqual(run(read("(stop a)"), 8, 0), ("stop", "a", (0, 0, 0), []))
        for text in ("Nil", "(Cons 1 2)", "(+ 1 2)", "(let (x 1) x)", "((fun x x) 1)", "(first 1 2)",
                     "(choose Yes (No 1) (Yes 2))", "(1 2)"):
            with self.subTest(text):
                self.assertEqual(run(read(text), 8, 0), ("spent", "", (0, 0, 0), []))

    def test_step_by_step(self):
        log = [("born", 0, "x", 1), ("enter", 0, "x", 3), ("back", 0, "x", 6), ("enter", 0, "x", 8), ("back", 0, "x", 11)]
        for most in range(12):
            with self.subTest(most):
                self.assertEqual(run(read("(let (x (+ 1 2)) (+ x x))"), 8, most),
                                 ("spent", "", (most, 0, 0), [row for row in log if row[3] <= most]))

    def test_counts_by_then(self):
        text = "(let (x (Cons 1 Nil)) (first x (first x x)))"
        for most, cells, firsts in ((0, 0, 0), (1, 0, 0), (2, 0, 1), (3, 0, 1), (4, 1, 1), (5, 1, 1), (6, 1, 2), (8, 2, 2)):
            self.assertEqual(run(read(text), 1, most)[:3], ("spent", "", (most, cells, firsts)))
        self.assertEqual(run(read(text), 1)[:3], ("told", "(Cons ? ?)", (11, 3, 2)))

    def test_what_goes_without_a_step_is_done_before(self):
        self.assertEqual(run(read("(let (x 1) (y x) (+ y y))"), 8, 4), ("spent", "", (4, 0, 0), [
            ("born", 0, "x", 1), ("born", 1, "y", 1), ("enter", 1, "y", 3), ("enter", 0, "x", 4),
            ("back", 0, "x", 4), ("back", 1, "y", 4)]))
        self.assertEqual(run(read("(Cons 1 2)"), 8, 2), ("spent", "", (2, 1, 0), [
            ("born", 0, "Cons.1", 1), ("born", 1, "Cons.2", 1), ("enter", 0, "Cons.1", 2), ("back", 0, "Cons.1", 2)]))
        self.assertEqual(run(read("((stop a) 1)"), 8, 1)[:2], ("stop", "a"))
        self.assertEqual(run(read("(let (x 1) x)"), 8, 2)[:2], ("told", "1"))

    def test_runs_that_never_end(self):
        for most in (0, 1, 2, 399, 400, 401, 1000):
            for text in (ENDLESS, "(let (x x) x)", "(let (x (+ x 1)) x)"):
                with self.subTest(text=text, most=most):
                    outcome = run(read(text), 8, most)
                    self.assertEqual(outcome[:3], ("spent", "", (most, 0, 0)))

    def test_the_log_of_one_that_never_ends(self):
        self.assertEqual(run(read("(let (x x) x)"), 8, 4)[3], [
            ("born", 0, "x", 1), ("enter", 0, "x", 2), ("enter", 0, "x", 3), ("enter", 0, "x", 4)])


class Outcomes(unittest.TestCase):

    def test_the_forms(self):
        for text, word in (("(Cons 1 2)", "told"), ("(first Nil (stop a))", "stop"), ("(1 2)", "stuck"), (ENDLESS, "spent")):
            with self.subTest(text):
                outcome = run(read(text))
                self.assertEqual((type(outcome), len(outcome), outcome[0]), (tuple, 4, word))
                self.assertIs(type(outcome[1]), str)
                self.assertIs(type(outcome[2]), tuple)
                self.assertEqual([type(count) for count in outcome[2]], [int, int, int])
                self.assertIs(type(outcome[3]), list)
                for row in outcome[3]:
                    self.assertEqual([type(part) for part in row], [str, int, str, int])

    def test_numbers_from_nothing_in_the_order_of_birth(self):
        log = run(read(NATS), 5)[3]
        born = [row for row in log if row[0] == "born"]
        self.assertEqual([row[1] for row in born], list(range(len(born))))
        labels = {row[1]: row[2] for row in born}
        self.assertEqual([row[2] for row in log], [labels[row[1]] for row in log])
        self.assertEqual([row[3] for row in log], sorted(row[3] for row in log))

    def test_the_whole_of_an_endless_list_to_depth_three(self):
        self.assertEqual(run(read(NATS), 3), ("told", "(Cons 0 (Cons 1 (Cons ? ?)))", (21, 3, 0), [
            ("born", 0, "nats", 1), ("enter", 0, "nats", 3), ("back", 0, "nats", 3), ("born", 1, "n", 4),
            ("born", 2, "Cons.2", 5), ("enter", 1, "n", 6), ("back", 1, "n", 6),
            ("enter", 2, "Cons.2", 7), ("enter", 0, "nats", 9), ("back", 0, "nats", 9), ("born", 3, "n", 10),
            ("born", 4, "Cons.2", 11), ("back", 2, "Cons.2", 11),
            ("enter", 3, "n", 12), ("enter", 1, "n", 14), ("back", 1, "n", 14), ("back", 3, "n", 16),
            ("enter", 4, "Cons.2", 17), ("enter", 0, "nats", 19), ("back", 0, "nats", 19), ("born", 5, "n", 20),
            ("born", 6, "Cons.2", 21), ("back", 4, "Cons.2", 21)]))

    def test_depth_and_most_left_out(self):
        self.assertEqual(run(read(ONES)), run(read(ONES), 8, 400))
        self.assertEqual(run(read(ONES))[1], "(Cons 1 " * 7 + "(Cons ? ?)" + ")" * 7)
        self.assertEqual(run(read(ENDLESS))[:3], ("spent", "", (400, 0, 0)))
        self.assertEqual(run(read(ONES), 3), run(read(ONES), 3, 400))
        self.assertEqual(run(read(ENDLESS), 3)[2], (400, 0, 0))
        self.assertEqual(run(read(ONES), depth=2, most=5)[:3], ("spent", "", (5, 1, 0)))
        self.assertEqual(run(term=read(ONES), most=400)[1], run(read(ONES))[1])

    def test_what_is_given_is_the_asker_s_own(self):
        term = read("(let (x (+ 1 2)) (Cons x (Cons x Nil)))")
        given = run(term)
        again = run(term)
        given[3].clear()
        self.assertNotEqual(again[3], [])
        again[3].append("more")
        self.assertEqual(run(term)[3], again[3][:-1])
        self.assertEqual(term, read("(let (x (+ 1 2)) (Cons x (Cons x Nil)))"))


class Bounds(unittest.TestCase):

    def test_a_hundred_thousand_steps(self):
        counting = "(let (f (fun n (choose (= n 0) (No (first n (f (- n 1)))) (Yes 0)))) (f 100000))"
        for text in (ENDLESS, "(let (x x) x)", "(let (x (+ x 1)) x)", "(let (f (fun x (f (+ x 1)))) (f 1))", counting):
            with self.subTest(text):
                outcome = run(read(text), 40, 100000)
                self.assertEqual(outcome[:2], ("spent", ""))
                self.assertEqual(outcome[2][0], 100000)

    def test_a_way_back_from_far_within(self):
        text = "(let (f (fun n (choose (= n 0) (No (+ 1 (f (- n 1)))) (Yes 0)))) (f {}))"
        outcome = run(read(text.format(90)), 8, 100000)
        self.assertEqual(outcome[:2], ("told", "90"))

    def test_depth_forty(self):
        outcome = run(read(NATS), 40, 100000)
        wanted = "(Cons ? ?)"
        for number in range(38, -1, -1):
            wanted = f"(Cons {number} {wanted})"
        self.assertEqual(outcome[:2], ("told", wanted))
        self.assertEqual(run(read(TREE), 40, 100000)[:3], ("spent", "", (100000, 0, 0)))

    def test_four_hundred_parts(self):
        layer = ["1"] * 200
        while len(layer) > 1:
            pairs = [f"(+ {layer[k]} {layer[k + 1]})" for k in range(0, len(layer) - 1, 2)]
            layer = pairs + layer[len(layer) // 2 * 2:]
        term = read(layer[0])
        self.assertEqual(many(term), 399)
        self.assertEqual(run(term, 8, 597), ("told", "200", (597, 0, 0), []))

    def test_depth_twenty_four(self):
        term = ("first", ("name", "n10"), ("name", "n0"))
        for level in range(11):
            term = ("call", ("fun", f"n{10 - level}", term), ("number", level))
        self.assertEqual(depth(term), 24)
        self.assertEqual(run(term)[:3], ("told", "10", (26, 0, 1)))

    def test_deeper_terms_such_as_the_program_makes(self):
        term = ("name", "x")
        for level in range(200):
            term = ("first", ("name", "x"), term)
        term = ("call", ("fun", "x", term), ("number", 5))
        self.assertEqual(run(term, 8, 1000)[:3], ("told", "5", (603, 0, 200)))


if __name__ == "__main__":
    unittest.main()
