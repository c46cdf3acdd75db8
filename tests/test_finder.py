"""Points 1, 6, 8 and 9: the paper of a term, row by row, and what is refused."""

import unittest

from idlegraph.errors import NoKind, Unbound
from idlegraph.finder import kind_of, paper
from idlegraph.kinds import show_kind, size
from idlegraph.terms import depth, parts
from idlegraph.texts import read

NUM = ("num",)
TRUTH = ("truth",)


def many(term):
    return 1 + sum(many(part) for part in parts(term))


def deepness(kind):
    return 1 + max([deepness(part) for part in kind[1:] if isinstance(part, tuple)], default=0)


class Finding(unittest.TestCase):

    def rows(self, text, *shown):
        with self.subTest(text):
            given = paper(read(text))
            self.assertIsInstance(given, list)
            self.assertEqual([show_kind(kind) for kind in given], list(shown))
            self.assertEqual(show_kind(kind_of(read(text))), shown[0])

    def kind(self, text, shown):
        with self.subTest(text):
            self.assertEqual(show_kind(kind_of(read(text))), shown)
            self.assertEqual(kind_of(read(text)), paper(read(text))[0])

    def refused(self, error, *texts):
        for text in texts:
            with self.subTest(text):
                for ask in (paper, kind_of):
                    with self.assertRaises(error):
                        ask(read(text))


class Kinds(unittest.TestCase):

    def test_each_kind_is_the_tuple_that_is_told(self):
        self.assertEqual(paper(("number", 5)), [NUM])
        self.assertEqual(paper(("shape", "No", ())), [TRUTH])
        self.assertEqual(paper(("shape", "Nil", ())), [("list", ("open", 0))])
        self.assertEqual(paper(("stop", "x")), [("open", 0)])
        self.assertEqual(paper(("shape", "Pair", (("number", 5), ("shape", "Yes", ())))),
                         [("pair", NUM, TRUTH), NUM, TRUTH])
        self.assertEqual(paper(("fun", "x", ("fun", "y", ("name", "x")))),
                         [("to", ("open", 0), ("to", ("open", 1), ("open", 0))), ("to", ("open", 1), ("open", 0)),
                          ("open", 0)])

    def test_the_first_row_is_the_kind(self):
        self.assertEqual(kind_of(("shape", "Cons", (("number", 5), ("shape", "Nil", ())))), ("list", NUM))
        self.assertEqual(kind_of(("fun", "x", ("name", "x"))), ("to", ("open", 0), ("open", 0)))


class Rules(Finding):

    def test_number(self):
        self.rows("0", "num")
        self.rows("9" * 18, "num")

    def test_does(self):
        for op in ("+", "-", "*"):
            self.rows("(" + op + " 1 2)", "num", "num", "num")
            self.rows("(fun x y (" + op + " x y))", "(to num (to num num))", "(to num num)", "num", "num", "num")
        for op in ("<", "="):
            self.rows("(" + op + " 1 2)", "truth", "num", "num")
            self.rows("(fun x y (" + op + " x y))", "(to num (to num truth))", "(to num truth)", "truth", "num", "num")

    def test_fun(self):
        self.rows("(fun x x)", "(to any0 any0)", "any0")
        self.rows("(fun x 1)", "(to any0 num)", "num")
        self.rows("(fun x y x)", "(to any0 (to any1 any0))", "(to any1 any0)", "any0")
        self.rows("(fun x y y)", "(to any0 (to any1 any1))", "(to any1 any1)", "any1")

    def test_call(self):
        self.rows("((fun x x) 1)", "num", "(to num num)", "num", "num")
        self.rows("((fun x Yes) 1)", "truth", "(to num truth)", "truth", "num")
        self.rows("(fun f x (f x))", "(to (to any0 any1) (to any0 any1))", "(to any0 any1)", "any1", "(to any0 any1)",
                  "any0")
        self.rows("((fun x y x) 1 Nil)", "num", "(to (list any0) num)", "(to num (to (list any0) num))",
                  "(to (list any0) num)", "num", "num", "(list any0)")

    def test_let(self):
        self.rows("(let (x 1) x)", "num", "num", "num")
        self.rows("(let (x 1) Yes)", "truth", "num", "truth")
        self.rows("(let (f (fun x x)) 1)", "num", "(to any0 any0)", "any0", "num")

    def test_shapes(self):
        self.rows("Nil", "(list any0)")
        self.rows("(Cons 1 Nil)", "(list num)", "num", "(list num)")
        self.rows("(Cons Nil Nil)", "(list (list any0))", "(list any0)", "(list (list any0))")
        self.rows("No", "truth")
        self.rows("Yes", "truth")
        self.rows("(Pair 1 Nil)", "(pair num (list any0))", "num", "(list any0)")
        self.rows("(fun x y (Cons x y))", "(to any0 (to (list any0) (list any0)))", "(to (list any0) (list any0))",
                  "(list any0)", "any0", "(list any0)")

    def test_choose_of_a_list(self):
        self.rows("(fun z (choose z (Nil 0) (Cons x y x)))", "(to (list num) num)", "num", "(list num)", "num", "num")
        self.rows("(fun z (choose z (Nil z) (Cons x y y)))", "(to (list any0) (list any0))", "(list any0)",
                  "(list any0)", "(list any0)", "(list any0)")
        self.rows("(fun z (choose z (Nil 0) (Cons x y 1)))", "(to (list any0) num)", "num", "(list any0)", "num", "num")

    def test_choose_of_a_truth(self):
        self.rows("(choose Yes (No 1) (Yes 2))", "num", "truth", "num", "num")
        self.rows("(fun x y z (choose x (No y) (Yes z)))", "(to truth (to any0 (to any0 any0)))",
                  "(to any0 (to any0 any0))", "(to any0 any0)", "any0", "truth", "any0", "any0")

    def test_choose_of_a_pair(self):
        self.rows("(choose (Pair 1 Yes) (Pair x y y))", "truth", "(pair num truth)", "num", "truth", "truth")
        self.rows("(fun z (choose z (Pair x y x)))", "(to (pair any0 any1) any0)", "any0", "(pair any0 any1)", "any0")
        self.rows("(fun z (choose z (Pair x y y)))", "(to (pair any0 any1) any1)", "any1", "(pair any0 any1)", "any1")

    def test_first(self):
        self.rows("(first Yes 1)", "num", "truth", "num")
        self.rows("(first 1 Yes)", "truth", "num", "truth")
        self.rows("(fun x y (first x y))", "(to any0 (to any1 any1))", "(to any1 any1)", "any1", "any0", "any1")

    def test_stop(self):
        self.rows("(stop x)", "any0")
        self.rows("(+ (stop a) 1)", "num", "num", "num")
        self.rows("((stop f) 1)", "any0", "(to num any0)", "num")
        self.rows("(choose (stop a) (Nil 1) (Cons x y 2))", "num", "(list any0)", "num", "num")
        self.rows("(choose Yes (No (stop a)) (Yes Nil))", "(list any0)", "truth", "(list any0)", "(list any0)")

    def test_the_order_of_the_rows(self):
        self.rows("(let (a (Cons 1 Nil)) (b (Pair a Yes)) (choose b (Pair x y (first y x))))",
                  "(list num)",
                  "(list num)", "num", "(list num)",
                  "(pair (list num) truth)", "(list num)", "truth",
                  "(list num)", "(pair (list num) truth)", "(list num)", "truth", "(list num)")
        self.rows("(choose (< 1 2) (No (Pair Yes 1)) (Yes (Pair (= 3 4) (+ 5 6))))",
                  "(pair truth num)", "truth", "num", "num",
                  "(pair truth num)", "truth", "num",
                  "(pair truth num)", "truth", "num", "num", "num", "num", "num")


class Bindings(Finding):

    def test_a_let_binds_in_all_its_terms(self):
        self.rows("(let (x y) (y 1) Nil)", "(list any0)", "num", "num", "(list any0)")
        self.rows("(let (x 1) (y x) Nil)", "(list any0)", "num", "num", "(list any0)")
        self.rows("(let (xs (Cons 1 xs)) xs)", "(list num)", "(list num)", "num", "(list num)", "(list num)")

    def test_one_name_stands_for_another(self):
        self.rows("(let (x y) (y x) x)", "any0", "any0", "any0", "any0")
        self.rows("(let (x y) (y x) (+ x 1))", "num", "num", "num", "num", "num", "num")
        self.rows("(let (a b) (b c) (c d) (d e) (e 1) a)", *["num"] * 7)
        self.rows("(let (a 1) (b a) (c b) (d c) (e d) e)", *["num"] * 7)

    def test_names_that_speak_of_themselves(self):
        self.rows("(let (x x) x)", "any0", "any0", "any0")
        self.rows("(let (f (fun x (f x))) f)", "(to any0 any1)", "(to any0 any1)", "any1", "(to any0 any1)", "any0",
                  "(to any0 any1)")
        self.kind("(let (len (fun xs (choose xs (Nil 0) (Cons y ys (+ 1 (len ys)))))) len)", "(to (list any0) num)")
        self.kind("(let (even (fun n (choose (= n 0) (No (odd (- n 1))) (Yes Yes))))"
                  " (odd (fun n (choose (= n 0) (No (even (- n 1))) (Yes No)))) (Pair even odd))",
                  "(pair (to num truth) (to num truth))")

    def test_a_name_bound_twice_in_funs(self):
        self.rows("(fun x x (+ x 1))", "(to any0 (to num num))", "(to num num)", "num", "num", "num")
        self.rows("(fun x (Pair x ((fun x (+ x 1)) 2)))", "(to any0 (pair any0 num))", "(pair any0 num)", "any0",
                  "num", "(to num num)", "num", "num", "num", "num")
        self.rows("(fun x (Pair ((fun x (+ x 1)) 2) x))", "(to any0 (pair num any0))", "(pair num any0)",
                  "num", "(to num num)", "num", "num", "num", "num", "any0")

    def test_a_name_bound_twice_by_a_let(self):
        self.rows("(fun x (let (x 1) x))", "(to any0 num)", "num", "num", "num")
        self.rows("(fun x (let (x x) x))", "(to any0 any1)", "any1", "any1", "any1")
        self.rows("(let (x 1) (let (x Yes) x))", "truth", "num", "truth", "truth", "truth")
        self.rows("(let (x (let (x Yes) 1)) x)", "num", "num", "truth", "num", "num")

    def test_a_name_bound_twice_by_an_alternative(self):
        self.rows("(fun x (choose (Pair 1 Yes) (Pair y x x)))", "(to any0 truth)", "truth", "(pair num truth)", "num",
                  "truth", "truth")
        self.rows("(fun x (choose (Pair 1 Yes) (Pair x y x)))", "(to any0 num)", "num", "(pair num truth)", "num",
                  "truth", "num")

    def test_an_alternative_binds_in_its_own_body_alone(self):
        self.rows("(fun x (choose (Cons Yes Nil) (Nil (+ x 1)) (Cons x y 5)))", "(to num num)", "num",
                  "(list truth)", "truth", "(list truth)", "num", "num", "num", "num")
        self.rows("(fun y (choose (Cons y Nil) (Nil 1) (Cons x y 5)))", "(to any0 num)", "num", "(list any0)", "any0",
                  "(list any0)", "num", "num")

    def test_one_name_in_two_places_apart(self):
        self.rows("(Pair (fun x (+ x 1)) (fun x (choose x (No 1) (Yes 2))))", "(pair (to num num) (to truth num))",
                  "(to num num)", "num", "num", "num", "(to truth num)", "num", "truth", "num", "num")

    def test_a_name_has_one_kind_wherever_it_stands(self):
        self.refused(NoKind, "(let (i (fun x x)) (Pair (i 1) (i Yes)))", "((fun i (Pair (i 1) (i Yes))) (fun x x))",
                     "(let (n Nil) (Pair (Cons 1 n) (Cons Yes n)))", "(fun x (Pair (+ x 1) (choose x (No 1) (Yes 2))))",
                     "(choose (Pair Nil 1) (Pair n y (Pair (Cons 1 n) (Cons Yes n))))", "(let (i (fun x x)) (i i))")
        self.kind("(Pair ((fun x x) 1) ((fun x x) Yes))", "(pair num truth)")
        self.kind("(let (i (fun x x)) (Pair (i 1) (i 2)))", "(pair num num)")
        self.rows("(let (i (fun x x)) (Pair i (i 1)))", "(pair (to num num) num)", "(to num num)", "num",
                  "(pair (to num num) num)", "(to num num)", "num", "(to num num)", "num")

    def test_what_is_known_late_is_known_at_all_places(self):
        self.rows("(fun x y (first (Cons x (Cons y Nil)) (+ x 1)))", "(to num (to num num))", "(to num num)", "num",
                  "(list num)", "num", "(list num)", "num", "(list num)", "num", "num", "num")


class Open(Finding):

    def test_most_general(self):
        self.kind("(fun f g x (f (g x)))", "(to (to any0 any1) (to (to any2 any0) (to any2 any1)))")
        self.kind("(fun f g x (f x (g x)))", "(to (to any0 (to any1 any2)) (to (to any0 any1) (to any0 any2)))")
        self.kind("(let (map (fun f xs (choose xs (Nil Nil) (Cons y ys (Cons (f y) (map f ys)))))) map)",
                  "(to (to any0 any1) (to (list any0) (list any1)))")
        self.kind("(let (fold (fun f e xs (choose xs (Nil e) (Cons y ys (f y (fold f e ys)))))) fold)",
                  "(to (to any0 (to any1 any1)) (to any1 (to (list any0) any1)))")
        self.kind("(let (both (fun xs ys (choose xs (Nil ys) (Cons z zs (Cons z (both zs ys)))))) both)",
                  "(to (list any0) (to (list any0) (list any0)))")
        self.kind("(fun p (choose p (Pair x y (Pair y x))))", "(to (pair any0 any1) (pair any1 any0))")

    def test_unlike_ones_stay_unlike(self):
        self.rows("(Pair (stop a) (stop a))", "(pair any0 any1)", "any0", "any1")
        self.rows("(Pair Nil Nil)", "(pair (list any0) (list any1))", "(list any0)", "(list any1)")

    def test_numbers_go_by_the_paper_from_its_first_row_on(self):
        self.rows("(first Nil (Pair Nil Nil))", "(pair (list any0) (list any1))", "(list any2)",
                  "(pair (list any0) (list any1))", "(list any0)", "(list any1)")
        self.rows("(first (Pair (stop a) (stop b)) (first (stop c) 1))", "num", "(pair any0 any1)", "any0", "any1",
                  "num", "any2", "num")
        self.rows("(let (x Nil) (y (stop a)) Nil)", "(list any0)", "(list any1)", "any2", "(list any0)")

    def test_numbers_go_from_left_to_right_in_a_kind(self):
        self.rows("(fun x y (Pair y x))", "(to any0 (to any1 (pair any1 any0)))", "(to any1 (pair any1 any0))",
                  "(pair any1 any0)", "any1", "any0")
        self.rows("(fun z (choose z (Pair x y (y x))))", "(to (pair any0 (to any0 any1)) any1)", "any1",
                  "(pair any0 (to any0 any1))", "any1", "(to any0 any1)", "any0")
        self.rows("(fun y f (f y 1))", "(to any0 (to (to any0 (to num any1)) any1))",
                  "(to (to any0 (to num any1)) any1)", "any1", "(to num any1)", "(to any0 (to num any1))", "any0", "num")

    def test_names_that_stand_nowhere(self):
        self.rows("(choose (Pair (stop a) 1) (Pair x y y))", "num", "(pair any0 num)", "any0", "num", "num")
        self.rows("(first (fun x 1) (fun y 2))", "(to any0 num)", "(to any1 num)", "num", "(to any0 num)", "num")


class Unlike(Finding):

    def test_parts_of_does(self):
        for op in ("+", "-", "*", "<", "="):
            self.refused(NoKind, *["(" + op + " " + two + ")" for two in (
                "Yes 1", "1 Yes", "Nil 1", "1 Nil", "(fun x x) 1", "1 (Pair 1 1)", "No No", "(< 1 1) 1")])

    def test_outcomes_of_does(self):
        self.refused(NoKind, "(choose (+ 1 2) (No 1) (Yes 2))", "(+ (< 1 2) 1)", "(+ 1 (= 1 2))", "(Cons 1 (- 1 1))",
                     "(choose (* 1 1) (Nil 1) (Cons x y 1))")
        self.kind("(choose (< 1 2) (No 1) (Yes 2))", "num")
        self.kind("(choose (= 1 2) (No 1) (Yes 2))", "num")

    def test_a_call_of_what_is_no_fun(self):
        self.refused(NoKind, "(1 2)", "(Nil 0)", "(Yes 1)", "((Pair 1 2) 1)", "((Cons 1 Nil) 1)", "((+ 1 2) 3)",
                     "((fun x x) 1 2)", "((fun x y x) 1 2 3)", "(let (x 1) (x x))", "(let (x Nil) (x 1))")

    def test_what_is_given(self):
        self.refused(NoKind, "((fun x (+ x 1)) Yes)", "((fun x (choose x (No 1) (Yes 2))) 1)",
                     "((fun f (f 1)) (fun x (choose x (No 1) (Yes 2))))", "((fun x y (+ x y)) 1 No)")

    def test_lists(self):
        self.refused(NoKind, "(Cons 1 (Cons Yes Nil))", "(Cons 1 1)", "(Cons 1 Yes)", "(Cons Nil (Cons 1 Nil))",
                     "(Cons (Cons 1 Nil) (Cons (Cons Yes Nil) Nil))", "(Cons 1 (Pair 1 Nil))")

    def test_the_wrong_family(self):
        listing, truth, pair = "(Nil 1) (Cons x y 1)", "(No 1) (Yes 1)", "(Pair x y 1)"
        for term, right in (("Nil", listing), ("(Cons 1 Nil)", listing), ("Yes", truth), ("No", truth),
                            ("(Pair 1 1)", pair), ("1", ""), ("(fun x x)", "")):
            for alternatives in (listing, truth, pair):
                text = "(choose " + term + " " + alternatives + ")"
                if alternatives == right:
                    self.kind(text, "num")
                else:
                    self.refused(NoKind, text)

    def test_bodies_of_alternatives(self):
        self.refused(NoKind, "(choose Yes (No 1) (Yes No))", "(choose Nil (Nil 1) (Cons x y y))",
                     "(choose (Cons Yes Nil) (Nil 1) (Cons x y x))", "(+ 1 (choose Yes (No No) (Yes No)))")

    def test_names_of_alternatives(self):
        self.refused(NoKind, "(choose (Pair 1 Yes) (Pair x y (+ x y)))", "(choose (Pair Yes 1) (Pair x y (+ x y)))",
                     "(choose (Cons 1 Nil) (Nil 1) (Cons x y (+ x y)))",
                     "(choose (Cons 1 Nil) (Nil 1) (Cons x y (choose x (No 1) (Yes 1))))",
                     "(choose (Cons 1 Nil) (Nil Nil) (Cons x y (Cons Yes y)))")

    def test_terms_of_lets(self):
        self.refused(NoKind, "(let (x Yes) (+ x 1))", "(let (x y) (y Yes) (+ x 1))", "(let (x (+ y 1)) (y Yes) 1)",
                     "(let (x 1) (y (choose x (No 1) (Yes 1))) 1)", "(let (x (+ 1 Yes)) 1)")

    def test_what_is_never_wanted_is_asked_too(self):
        self.refused(NoKind, "(first (+ 1 Yes) 1)", "(fun x (+ 1 Yes))", "((fun x 1) (1 2))", "(Pair (Nil 1) 1)",
                     "(choose Yes (No (first (1 2) 1)) (Yes 1))", "(first (stop x) (+ 1 No))")


class WithinItself(Finding):

    def test_by_a_fun(self):
        self.refused(NoKind, "(fun x (x x))", "((fun x (x x)) (fun x (x x)))", "(fun x (Cons x x))",
                     "(fun f x (f (x f)  (x x)))", "(let (f (fun x f)) f)", "(let (f (fun x (f f))) f)",
                     "(let (f (fun x (x f))) (f f))")

    def test_by_a_let(self):
        self.refused(NoKind, "(let (x (Cons x Nil)) x)", "(let (x (Pair 1 x)) x)", "(let (x (Pair x 1)) 1)",
                     "(let (x (x 1)) (first (x x) 1))", "(let (x (Pair y 1)) (y (Pair x 1)) 1)")

    def test_over_several_names(self):
        self.refused(NoKind, "(let (a (Cons b Nil)) (b (Cons c Nil)) (c (Cons d Nil)) (d (Cons e Nil))"
                             " (e (Cons a Nil)) 1)",
                     "(let (a (fun x b)) (b (fun x c)) (c (Pair d 1)) (d (Pair 1 a)) 1)")
        self.kind("(let (a (Cons b Nil)) (b (Cons c Nil)) (c (Cons d Nil)) (d (Cons e Nil)) (e (Cons 1 Nil)) a)",
                  "(list (list (list (list (list num)))))")

    def test_by_an_alternative(self):
        self.refused(NoKind, "(let (x (choose x (Nil Nil) (Cons a b a))) x)", "(fun x (choose x (Pair a b (a x))))",
                     "(fun x (choose x (Nil x) (Cons a b (Cons b Nil))))",
                     "(fun x y (choose (= 1 1) (No x) (Yes (Pair x y))))")

    def test_where_two_such_kinds_come_together(self):
        self.refused(NoKind, "(fun x y (first (x x) (first (y y) (choose Yes (No x) (Yes y)))))",
                     "(let (x (Cons x Nil)) (y (Cons y Nil)) (choose Yes (No x) (Yes y)))",
                     "(let (x (Pair x y)) (y (Pair y x)) (choose Yes (No x) (Yes y)))")

    def test_alike_kinds_are_not_within_one_another(self):
        self.kind("(let (x (Cons 1 x)) x)", "(list num)")
        self.kind("(fun x (Pair x x))", "(to any0 (pair any0 any0))")
        self.kind("(fun f (f (f 1)))", "(to (to num num) num)")
        self.kind("(fun x (Pair (Pair x x) (Pair x x)))", "(to any0 (pair (pair any0 any0) (pair any0 any0)))")


class Names(Finding):

    def test_free_names(self):
        self.refused(Unbound, "x", "(+ x 1)", "(fun x y)", "(f 1)", "(let (x 1) y)", "(let (x y) x)", "(Cons 1 xs)",
                     "(choose z (Pair a b a))", "(first x 1)", "(first 1 x)")

    def test_free_outside_of_what_binds_them(self):
        self.refused(Unbound, "((fun x x) x)", "(Pair x (let (x 1) x))", "(choose (Pair 1 2) (Pair a b c))",
                     "(choose Nil (Nil a) (Cons a b 1))", "(choose a (Nil 1) (Cons a b 1))")

    def test_where_something_else_is_wrong_too(self):
        self.refused(Unbound, "(+ x Yes)", "(+ Yes x)", "(first (1 2) y)", "(Pair (1 2) y)", "(Pair y (1 2))",
                     "(fun x (x x y))", "(let (x (Cons x Nil)) y)", "(choose Yes (Nil 1) (Cons a b c))",
                     "(Cons 1 (Cons Yes xs))", "((fun x (x x)) z)", "(first (rows 1) x)")

    def test_the_word_of_a_stop_is_no_name(self):
        self.kind("(stop x)", "any0")
        self.kind("(fun x (stop x))", "(to any0 any1)")

    def test_the_one_refusal_is_not_the_other(self):
        with self.assertRaises(Unbound) as caught:
            paper(read("(+ x Yes)"))
        self.assertNotIsInstance(caught.exception, NoKind)
        with self.assertRaises(NoKind) as caught:
            paper(read("(+ 1 Yes)"))
        self.assertNotIsInstance(caught.exception, Unbound)


class Rows(Finding):

    def test_rows_have_no_kind(self):
        self.refused(NoKind, "(rows 1)", "(rows x (in x Nil))", "(fun y (rows y (be x y)))", "(first (rows 1) 2)")


class Askers(unittest.TestCase):

    def test_the_list_is_the_askers_own(self):
        for text in ("1", "(fun x (Pair x Nil))", "(let (x (Cons 1 x)) x)"):
            with self.subTest(text):
                term = read(text)
                given = paper(term)
                before = list(given)
                given.append(NUM)
                given.reverse()
                given[0] = TRUTH
                self.assertEqual(paper(term), before)
                self.assertEqual(kind_of(term), before[0])
                paper(term).clear()
                self.assertEqual(paper(term), before)

    def test_the_same_is_told_after_a_refusal(self):
        term = read("(fun x y (Pair y x))")
        before = paper(term)
        for text in ("(fun x (x x))", "(+ 1 Yes)", "y"):
            with self.assertRaises(ValueError):
                paper(read(text))
        self.assertEqual(paper(term), before)

    def test_numbers_begin_at_nought_each_time(self):
        term = read("(Pair Nil Nil)")
        self.assertEqual(paper(term), paper(term))
        self.assertEqual(paper(term)[1:], [("list", ("open", 0)), ("list", ("open", 1))])


class Bounds(unittest.TestCase):

    def test_four_hundred_parts_of_num(self):
        layer = [("number", place) for place in range(200)]
        while len(layer) > 1:
            layer = [("does", "+", layer[k], layer[k + 1]) for k in range(0, len(layer) - 1, 2)] + \
                layer[len(layer) // 2 * 2:]
        self.assertEqual(paper(layer[0]), [NUM] * 399)

    def test_four_hundred_parts_with_many_open_kinds(self):
        layer = [("stop", "x") for place in range(200)]
        while len(layer) > 1:
            layer = [("shape", "Pair", (layer[k], layer[k + 1])) for k in range(0, len(layer) - 1, 2)] + \
                layer[len(layer) // 2 * 2:]
        given = paper(layer[0])
        self.assertEqual(len(given), 399)
        self.assertEqual(size(given[0]), 399)
        self.assertEqual([kind for kind in given if kind[0] == "open"], [("open", k) for k in range(200)])
        self.assertEqual(show_kind(given[0]).replace("(", "").replace(")", "").replace("pair ", ""),
                         " ".join("any" + str(k) for k in range(200)))

    def test_one_mistake_in_four_hundred_parts(self):
        layer = [("number", place) for place in range(199)] + [("shape", "Yes", ())]
        while len(layer) > 1:
            layer = [("does", "+", layer[k], layer[k + 1]) for k in range(0, len(layer) - 1, 2)] + \
                layer[len(layer) // 2 * 2:]
        with self.assertRaises(NoKind):
            paper(layer[0])

    def test_a_kind_of_some_thousand_parts(self):
        term = ("name", "n10")
        for level in range(10, 0, -1):
            before = ("name", "n" + str(level - 1))
            term = ("let", (("n" + str(level), ("shape", "Pair", (before, before))),), term)
        term = ("fun", "n0", term)
        given = paper(term)
        self.assertEqual(len(given), many(term))
        self.assertEqual(size(given[0]), 2049)
        self.assertEqual(size(given[-1]), 2047)
        self.assertEqual([size(kind) for kind in given[2:8]], [3, 1, 1, 2047, 7, 3])
        self.assertEqual(show_kind(given[-1]).count("any0"), 1024)
        self.assertNotIn("any1", show_kind(given[0]))

    def test_two_such_kinds_made_alike(self):
        term = ("choose", ("shape", "Yes", ()), (("No", (), ("name", "a11")), ("Yes", (), ("name", "b11"))))
        for level in range(11, 0, -1):
            pairs = [(letter + str(level), ("shape", "Pair", (("name", letter + str(level - 1)),) * 2))
                     for letter in "ab"]
            term = ("let", tuple(pairs), term)
        term = ("fun", "a0", ("fun", "b0", ("first", ("does", "+", ("name", "b0"), ("number", 1)), term)))
        self.assertEqual(depth(term), 16)
        kind = kind_of(term)
        self.assertEqual(kind[1], NUM)
        self.assertEqual(size(kind[2][2]), 4095)
        self.assertNotIn("any", show_kind(kind))

    def test_a_kind_nested_sixty_deep(self):
        term = ("name", "n19")
        for level in range(19, -1, -1):
            inner = ("name", "n" + str(level - 1)) if level > 0 else ("number", 1)
            for layer in range(3 if level > 0 else 2):
                inner = ("shape", "Cons", (inner, ("shape", "Nil", ())))
            term = ("let", (("n" + str(level), inner),), term)
        self.assertLessEqual(depth(term), 24)
        self.assertLessEqual(many(term), 400)
        self.assertEqual(deepness(kind_of(term)), 60)
        self.assertEqual(show_kind(kind_of(term)), "(list " * 59 + "num" + ")" * 59)

    def test_a_kind_within_itself_over_many_steps(self):
        for last, error in (("n100", NoKind), ("n0", None)):
            term = ("choose", ("shape", "Yes", ()), (("No", (), ("name", "n0")), ("Yes", (), ("name", last))))
            for start in range(95, -1, -5):
                pairs = [("n" + str(k + 1), ("shape", "Cons", (("name", "n" + str(k)), ("shape", "Nil", ()))))
                         for k in range(start, start + 5)]
                term = ("let", tuple(pairs), term)
            term = ("fun", "n0", term)
            self.assertLessEqual(depth(term), 24)
            self.assertLessEqual(many(term), 400)
            if error is None:
                self.assertEqual(kind_of(term), ("to", ("open", 0), ("open", 0)))
            else:
                with self.assertRaises(error):
                    paper(term)

    def test_deeper_terms_such_as_the_program_makes(self):
        term = ("name", "y")
        for level in range(300):
            term = ("first", ("name", "x"), term)
        given = paper(("fun", "x", ("fun", "y", term)))
        self.assertEqual(given[0], ("to", ("open", 0), ("to", ("open", 1), ("open", 1))))
        self.assertEqual(given[2:], [("open", 1), ("open", 0)] * 300 + [("open", 1)])


if __name__ == "__main__":
    unittest.main()
