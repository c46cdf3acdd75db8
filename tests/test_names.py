"""Points 12 to 14, by names: each sort of term in hand, each sort of frame, and the things that are born."""

import unittest

from idlegraph.names import run
from idlegraph.texts import read

GREATEST = "999999999999999999"


# A log written row by row: "born 0 x 2, enter 0 x 3".
def rows(text):
    words = [row.split() for row in text.split(", ") if text != ""]
    return [(event, int(number), label, int(steps)) for event, number, label, steps in words]


class Runs(unittest.TestCase):

    def told(self, text, what, counts, log, depth=8):
        with self.subTest(text):
            self.assertEqual(run(read(text), depth, 400), ("told", what, counts, rows(log)))


class Values(Runs):

    def test_numbers_and_funs_are_values_already(self):
        self.told("7", "7", (0, 0, 0), "")
        self.told("0", "0", (0, 0, 0), "")
        self.told(GREATEST, GREATEST, (0, 0, 0), "")
        self.told("(fun x x)", "fun", (0, 0, 0), "")
        self.told("(fun x (stop a))", "fun", (0, 0, 0), "")

    def test_shapes_are_made_by_a_step(self):
        for shape in ("Nil", "No", "Yes"):
            self.told(shape, shape, (1, 0, 0), "")


class Does(Runs):

    def test_three_steps(self):
        self.told("(+ 1 2)", "3", (3, 0, 0), "")
        self.told("(- 5 3)", "2", (3, 0, 0), "")
        self.told("(* 6 7)", "42", (3, 0, 0), "")

    def test_truths_are_made_shapes_at_once(self):
        self.told("(< 1 2)", "Yes", (3, 0, 0), "")
        self.told("(< 2 2)", "No", (3, 0, 0), "")
        self.told("(= 2 2)", "Yes", (3, 0, 0), "")
        self.told("(= 2 1)", "No", (3, 0, 0), "")

    def test_the_order_of_the_two(self):
        self.told("(- 3 5)", "999999999999999998", (3, 0, 0), "")
        self.told("(< 5 3)", "No", (3, 0, 0), "")
        self.told("(- (- 10 2) (- 4 1))", "5", (9, 0, 0), "")

    def test_beyond_the_greatest(self):
        self.told(f"(+ {GREATEST} 1)", "0", (3, 0, 0), "")
        self.told(f"(* {GREATEST} {GREATEST})", "1", (3, 0, 0), "")
        self.told("(- 0 1)", GREATEST, (3, 0, 0), "")

    def test_the_first_is_run_before_the_second(self):
        self.told("(let (a 1) (b 2) (+ a b))", "3", (6, 0, 0),
                  "born 0 a 1, born 1 b 1, enter 0 a 3, back 0 a 3, enter 1 b 5, back 1 b 5")


class Calls(Runs):

    def test_a_thing_is_born_for_what_is_given(self):
        self.told("((fun x x) 5)", "5", (3, 0, 0), "born 0 x 2, enter 0 x 3, back 0 x 3")
        self.told("((fun x x) (+ 1 2))", "3", (6, 0, 0), "born 0 x 2, enter 0 x 3, back 0 x 6")

    def test_what_is_not_wanted_is_not_entered(self):
        self.told("((fun x 1) 5)", "1", (2, 0, 0), "born 0 x 2")
        self.told("((fun x 1) (stop a))", "1", (2, 0, 0), "born 0 x 2")

    def test_a_mark_gives_birth_to_none(self):
        self.told("(let (y 1) ((fun x x) y))", "1", (4, 0, 0), "born 0 y 1, enter 0 y 4, back 0 y 4")
        self.told("((fun y ((fun x x) y)) 1)", "1", (5, 0, 0), "born 0 y 2, enter 0 y 5, back 0 y 5")

    def test_many_given(self):
        self.told("((fun x y (- x y)) 5 3)", "2", (9, 0, 0),
                  "born 0 x 3, born 1 y 4, enter 0 x 6, back 0 x 6, enter 1 y 8, back 1 y 8")

    def test_too_few_given(self):
        self.told("((fun x y x) 5)", "fun", (2, 0, 0), "born 0 x 2")

    def test_a_fun_behind_a_mark(self):
        self.told("(let (f (fun x x)) (f 4))", "4", (5, 0, 0),
                  "born 0 f 1, enter 0 f 3, back 0 f 3, born 1 x 4, enter 1 x 5, back 1 x 5")

    def test_the_inner_of_names_that_are_alike(self):
        self.told("((fun x ((fun x x) 2)) 1)", "2", (5, 0, 0), "born 0 x 2, born 1 x 4, enter 1 x 5, back 1 x 5")
        self.told("((fun x x x) 1 2)", "2", (5, 0, 0), "born 0 x 3, born 1 x 4, enter 1 x 5, back 1 x 5")

    def test_a_name_keeps_what_it_stood_for(self):
        self.told("((fun x (let (f (fun y x)) ((fun x (f x)) 2))) 1)", "1", (9, 0, 0),
                  "born 0 x 2, born 1 f 3, born 2 x 5, enter 1 f 7, back 1 f 7, enter 0 x 9, back 0 x 9")


class Chooses(Runs):

    def test_by_a_list(self):
        self.told("(choose Nil (Nil 1) (Cons a b 2))", "1", (3, 0, 0), "")
        self.told("(choose (Cons 7 Nil) (Nil 0) (Cons a b a))", "7", (4, 1, 0),
                  "born 0 Cons.1 2, born 1 Cons.2 2, enter 0 Cons.1 4, back 0 Cons.1 4")
        self.told("(choose (Cons 7 Nil) (Nil 0) (Cons a b b))", "Nil", (5, 1, 0),
                  "born 0 Cons.1 2, born 1 Cons.2 2, enter 1 Cons.2 4, back 1 Cons.2 5")

    def test_by_a_truth(self):
        self.told("(choose No (No 1) (Yes 2))", "1", (3, 0, 0), "")
        self.told("(choose Yes (No 1) (Yes 2))", "2", (3, 0, 0), "")
        self.told("(choose (< 1 2) (No 1) (Yes 2))", "2", (5, 0, 0), "")

    def test_by_a_pair(self):
        self.told("(choose (Pair 7 8) (Pair a b a))", "7", (4, 0, 0),
                  "born 0 Pair.1 2, born 1 Pair.2 2, enter 0 Pair.1 4, back 0 Pair.1 4")
        self.told("(choose (Pair 7 8) (Pair a b b))", "8", (4, 0, 0),
                  "born 0 Pair.1 2, born 1 Pair.2 2, enter 1 Pair.2 4, back 1 Pair.2 4")

    def test_what_is_not_picked_is_not_run(self):
        self.told("(choose No (No 1) (Yes (stop a)))", "1", (3, 0, 0), "")
        self.told("(choose (Cons 1 Nil) (Nil (stop a)) (Cons a b 2))", "2", (3, 1, 0),
                  "born 0 Cons.1 2, born 1 Cons.2 2")

    def test_names_that_are_bound_again(self):
        self.told("(choose (Pair 7 8) (Pair a b ((fun a a) b)))", "8", (6, 0, 0),
                  "born 0 Pair.1 2, born 1 Pair.2 2, enter 1 Pair.2 6, back 1 Pair.2 6")


class Firsts(Runs):

    def test_two_steps_and_a_first(self):
        self.told("(first 1 2)", "2", (2, 0, 1), "")

    def test_each_sort_of_value_is_enough(self):
        self.told("(first (fun x x) 2)", "2", (2, 0, 1), "")
        self.told("(first Yes 2)", "2", (3, 0, 1), "")
        self.told("(first (Cons (stop a) (stop b)) 2)", "2", (3, 1, 1), "born 0 Cons.1 2, born 1 Cons.2 2")

    def test_within_one_another(self):
        self.told("(first (first 1 2) 3)", "3", (4, 0, 2), "")
        self.told("(first 1 (first 2 3))", "3", (4, 0, 2), "")

    def test_what_is_reckoned_first_is_reckoned_again_by_names(self):
        self.told("(let (x (+ 1 2)) (first x x))", "3", (11, 0, 1),
                  "born 0 x 1, enter 0 x 3, back 0 x 6, enter 0 x 8, back 0 x 11")

    def test_a_first_that_is_not_come_to_is_not_counted(self):
        self.told("((fun x 1) (first 1 2))", "1", (2, 0, 0), "born 0 x 2")


class Lets(Runs):

    def test_one_step_for_all_names(self):
        self.told("(let (x 1) x)", "1", (2, 0, 0), "born 0 x 1, enter 0 x 2, back 0 x 2")
        self.told("(let (e 1) (d 2) (c 3) (b 4) (a 5) 6)", "6", (1, 0, 0),
                  "born 0 e 1, born 1 d 1, born 2 c 1, born 3 b 1, born 4 a 1")

    def test_things_are_born_where_the_terms_are_marks(self):
        self.told("(let (b 1) (a b) (c a) c)", "1", (4, 0, 0),
                  "born 0 b 1, born 1 a 1, born 2 c 1, enter 2 c 2, enter 1 a 3, enter 0 b 4, "
                  "back 0 b 4, back 1 a 4, back 2 c 4")
        self.told("(let (x 1) (let (y x) y))", "1", (4, 0, 0),
                  "born 0 x 1, born 1 y 2, enter 1 y 3, enter 0 x 4, back 0 x 4, back 1 y 4")

    def test_names_stand_in_terms_ahead_of_their_own(self):
        self.told("(let (a b) (b 3) a)", "3", (3, 0, 0),
                  "born 0 a 1, born 1 b 1, enter 0 a 2, enter 1 b 3, back 1 b 3, back 0 a 3")

    def test_names_stand_in_their_own_terms(self):
        self.told("(let (f (fun n (choose (< n 1) (No (f (- n 1))) (Yes 9)))) (f 1))", "9", (23, 0, 0),
                  "born 0 f 1, enter 0 f 3, back 0 f 3, born 1 n 4, enter 1 n 7, back 1 n 7, "
                  "enter 0 f 12, back 0 f 12, born 2 n 13, enter 2 n 16, enter 1 n 18, back 1 n 18, back 2 n 20")

    def test_the_inner_of_names_that_are_alike(self):
        self.told("(let (x 1) (let (x 2) x))", "2", (3, 0, 0), "born 0 x 1, born 1 x 2, enter 1 x 3, back 1 x 3")

    def test_what_is_not_wanted_is_not_entered(self):
        self.told("(let (x (stop a)) (y y) 5)", "5", (1, 0, 0), "born 0 x 1, born 1 y 1")


class Shapes(Runs):

    def test_things_are_born_for_both_parts(self):
        self.told("(Cons 1 2)", "(Cons ? ?)", (1, 1, 0), "born 0 Cons.1 1, born 1 Cons.2 1", 1)
        self.told("(Pair 1 2)", "(Pair ? ?)", (1, 0, 0), "born 0 Pair.1 1, born 1 Pair.2 1", 1)
        self.told("(Pair (+ 1 2) (fun x x))", "(Pair 3 fun)", (6, 0, 0),
                  "born 0 Pair.1 1, born 1 Pair.2 1, enter 0 Pair.1 2, back 0 Pair.1 5, enter 1 Pair.2 6, back 1 Pair.2 6")

    def test_of_shapes_within_one_another_the_outer_is_made_first(self):
        self.told("(Cons 1 (Cons 2 Nil))", "(Cons 1 (Cons 2 Nil))", (7, 2, 0),
                  "born 0 Cons.1 1, born 1 Cons.2 1, enter 0 Cons.1 2, back 0 Cons.1 2, enter 1 Cons.2 3, "
                  "born 2 Cons.1 4, born 3 Cons.2 4, back 1 Cons.2 4, enter 2 Cons.1 5, back 2 Cons.1 5, "
                  "enter 3 Cons.2 6, back 3 Cons.2 7")

    def test_marks_give_birth_to_none(self):
        self.told("(let (x 1) (Cons x Nil))", "(Cons ? ?)", (2, 1, 0), "born 0 x 1, born 1 Cons.2 2", 1)
        self.told("(let (x Nil) (Cons 1 x))", "(Cons ? ?)", (2, 1, 0), "born 0 x 1, born 1 Cons.1 2", 1)
        self.told("(let (x 1) (y Nil) (Cons x y))", "(Cons ? ?)", (2, 1, 0), "born 0 x 1, born 1 y 1", 1)
        self.told("(let (x 1) (Pair x 2))", "(Pair ? ?)", (2, 0, 0), "born 0 x 1, born 1 Pair.2 2", 1)
        self.told("(let (x 1) (Pair 2 x))", "(Pair ? ?)", (2, 0, 0), "born 0 x 1, born 1 Pair.1 2", 1)
        self.told("(let (x 1) (Pair x x))", "(Pair ? ?)", (2, 0, 0), "born 0 x 1", 1)

    def test_a_mark_in_a_shape_leads_to_its_thing(self):
        self.told("(let (x 1) (Pair x 2))", "(Pair 1 2)", (4, 0, 0),
                  "born 0 x 1, born 1 Pair.2 2, enter 0 x 3, back 0 x 3, enter 1 Pair.2 4, back 1 Pair.2 4")

    def test_cells_are_counted_for_cons_alone(self):
        self.told("(first Nil (first (Pair 1 2) (first Yes (first No 1))))", "1", (12, 0, 4),
                  "born 0 Pair.1 5, born 1 Pair.2 5")
        self.told("(first (Cons 1 Nil) (first (Cons 1 Nil) 1))", "1", (6, 2, 2),
                  "born 0 Cons.1 2, born 1 Cons.2 2, born 2 Cons.1 5, born 3 Cons.2 5")


class Entering(Runs):

    def test_a_thing_entered_twice_is_run_twice(self):
        self.told("(let (x (+ 1 2)) (+ x x))", "6", (12, 0, 0),
                  "born 0 x 1, enter 0 x 3, back 0 x 6, enter 0 x 8, back 0 x 11")

    def test_what_is_born_in_it_is_born_twice(self):
        self.told("(let (x (Cons 1 Nil)) (first x x))", "(Cons ? ?)", (7, 2, 1),
                  "born 0 x 1, enter 0 x 3, born 1 Cons.1 4, born 2 Cons.2 4, back 0 x 4, "
                  "enter 0 x 6, born 3 Cons.1 7, born 4 Cons.2 7, back 0 x 7", 1)
        self.told("(let (x ((fun y y) 3)) (+ x x))", "6", (12, 0, 0),
                  "born 0 x 1, enter 0 x 3, born 1 y 5, enter 1 y 6, back 1 y 6, back 0 x 6, "
                  "enter 0 x 8, born 2 y 10, enter 2 y 11, back 2 y 11, back 0 x 11")

    def test_things_within_things(self):
        self.told("(let (x 1) (y (+ x x)) (+ y y))", "4", (16, 0, 0),
                  "born 0 x 1, born 1 y 1, enter 1 y 3, enter 0 x 5, back 0 x 5, enter 0 x 7, back 0 x 7, back 1 y 8, "
                  "enter 1 y 10, enter 0 x 12, back 0 x 12, enter 0 x 14, back 0 x 14, back 1 y 15")

    def test_values_go_back_many_ways_without_a_step(self):
        self.told("(let (a b) (b c) (c d) (d e) (e 5) a)", "5", (6, 0, 0),
                  "born 0 a 1, born 1 b 1, born 2 c 1, born 3 d 1, born 4 e 1, "
                  "enter 0 a 2, enter 1 b 3, enter 2 c 4, enter 3 d 5, enter 4 e 6, "
                  "back 4 e 6, back 3 d 6, back 2 c 6, back 1 b 6, back 0 a 6")

    def test_a_thing_that_is_entered_within_itself(self):
        outcome = run(read("(let (x (+ 1 x)) x)"), 8, 10)
        self.assertEqual(outcome, ("spent", "", (10, 0, 0), rows(
            "born 0 x 1, enter 0 x 2, enter 0 x 5, enter 0 x 8")))


if __name__ == "__main__":
    unittest.main()
