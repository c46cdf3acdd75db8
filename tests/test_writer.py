"""Points 6 and 7: how terms are shown, and that what is shown is read to the same term."""

import random
import unittest

from idlegraph.terms import depth, parts
from idlegraph.texts import read
from idlegraph.writer import show

OPS = ("+", "-", "*", "<", "=")
NAMES = ("x", "y", "z", "a1b2", "abcdefgh", "nil", "funs", "q")

X = ("name", "x")
Y = ("name", "y")
Z = ("name", "z")
F = ("name", "f")
G = ("name", "g")
ONE = ("number", 1)
TWO = ("number", 2)
NIL = ("shape", "Nil", ())
NO = ("shape", "No", ())
YES = ("shape", "Yes", ())

FUN3 = ("fun", "x", ("fun", "y", ("fun", "z", Y)))
CALL3 = ("call", ("call", ("call", F, X), Y), Z)


def size(term):
    return 1 + sum(size(part) for part in parts(term))


def some_term(chance, levels):
    sort = chance.choice(("name", "number", "stop", "none") if levels == 0 else
                         ("name", "does", "fun", "fun", "call", "call", "let", "shape", "choose", "first", "rows"))
    if sort == "name":
        return ("name", chance.choice(NAMES))
    if sort == "number":
        return ("number", chance.choice((0, 1, 10, 10 ** 18 - 1, chance.randrange(10 ** 18))))
    if sort == "stop":
        return ("stop", chance.choice(NAMES))
    if sort == "none":
        return ("shape", chance.choice(("Nil", "No", "Yes")), ())
    if sort == "fun":
        return ("fun", chance.choice(NAMES), some_term(chance, levels - 1))
    one = some_term(chance, levels - 1)
    other = some_term(chance, chance.randrange(levels))
    if sort == "does":
        return ("does", chance.choice(OPS), one, other)
    if sort == "shape":
        return ("shape", chance.choice(("Cons", "Pair")), (one, other))
    if sort == "let":
        names = chance.sample(NAMES, chance.randrange(1, 6))
        return ("let", tuple((name, some_term(chance, chance.randrange(levels))) for name in names), one)
    if sort == "choose":
        return ("choose", one, some_alternatives(chance, levels))
    if sort == "rows":
        return ("rows", one, tuple(some_step(chance, levels) for place in range(chance.randrange(4))))
    return (sort, one, other)


def some_alternatives(chance, levels):
    family = chance.choice((("Nil", "Cons"), ("No", "Yes"), ("Pair",)))
    return tuple((shape, tuple(chance.sample(NAMES, 2 if shape in ("Cons", "Pair") else 0)),
                  some_term(chance, chance.randrange(levels))) for shape in family)


def some_step(chance, levels):
    part = some_term(chance, chance.randrange(levels))
    word = chance.choice(("in", "when", "be"))
    return (word, part) if word == "when" else (word, chance.choice(NAMES), part)


class Showing(unittest.TestCase):

    def check(self, term, text):
        with self.subTest(text):
            given = show(term)
            self.assertIsInstance(given, str)
            self.assertEqual(given, text)
            self.assertEqual(read(given), term)

    def again(self, text, shown):
        with self.subTest(text):
            self.assertEqual(show(read(text)), shown)
            self.assertEqual(show(read(shown)), shown)


class Words(Showing):

    def test_names(self):
        self.check(X, "x")
        self.check(("name", "abcdefgh"), "abcdefgh")
        self.check(("name", "a1b2"), "a1b2")

    def test_numbers(self):
        self.check(("number", 0), "0")
        self.check(("number", 7), "7")
        self.check(("number", 10), "10")
        self.check(("number", 123456789012345678), "123456789012345678")

    def test_the_greatest_number(self):
        self.check(("number", 10 ** 18 - 1), "9" * 18)
        self.check(("does", "+", ("number", 0), ("number", 10 ** 18 - 1)), "(+ 0 " + "9" * 18 + ")")

    def test_shapes_without_parts(self):
        self.check(NIL, "Nil")
        self.check(NO, "No")
        self.check(YES, "Yes")


class Forms(Showing):

    def test_does(self):
        for op in OPS:
            self.check(("does", op, X, TWO), "(" + op + " x 2)")
        self.check(("does", "-", ("does", "*", ONE, X), ("does", "<", Y, ("does", "=", TWO, Z))),
                   "(- (* 1 x) (< y (= 2 z)))")

    def test_fun(self):
        self.check(("fun", "x", X), "(fun x x)")
        self.check(("fun", "x", ("does", "+", X, ONE)), "(fun x (+ x 1))")

    def test_call(self):
        self.check(("call", F, X), "(f x)")
        self.check(("call", NIL, ("number", 0)), "(Nil 0)")
        self.check(("call", ONE, TWO), "(1 2)")
        self.check(("call", ("does", "+", ONE, TWO), X), "((+ 1 2) x)")
        self.check(("call", ("stop", "x"), ("shape", "Pair", (X, Y))), "((stop x) (Pair x y))")

    def test_let(self):
        self.check(("let", (("x", ONE),), X), "(let (x 1) x)")
        self.check(("let", (("x", ("call", F, X)), ("f", ("fun", "y", Y))), ("call", F, X)),
                   "(let (x (f x)) (f (fun y y)) (f x))")

    def test_let_of_five_names(self):
        pairs = tuple((name, ("number", place)) for place, name in enumerate("edcba"))
        self.check(("let", pairs, ("name", "c")), "(let (e 0) (d 1) (c 2) (b 3) (a 4) c)")

    def test_let_within_let(self):
        inner = ("let", (("y", X),), Y)
        self.check(("let", (("x", inner),), inner), "(let (x (let (y x) y)) (let (y x) y))")

    def test_shapes_with_parts(self):
        self.check(("shape", "Cons", (ONE, NIL)), "(Cons 1 Nil)")
        self.check(("shape", "Pair", (X, ("shape", "Cons", (YES, Y)))), "(Pair x (Cons Yes y))")

    def test_choose_of_a_list(self):
        self.check(("choose", Z, (("Nil", (), ONE), ("Cons", ("x", "y"), X))), "(choose z (Nil 1) (Cons x y x))")
        self.check(("choose", ("call", F, X), (("Nil", (), NIL), ("Cons", ("y", "x"), ("call", G, Y)))),
                   "(choose (f x) (Nil Nil) (Cons y x (g y)))")

    def test_choose_of_a_truth(self):
        self.check(("choose", ("does", "<", X, ONE), (("No", (), ("call", F, X)), ("Yes", (), YES))),
                   "(choose (< x 1) (No (f x)) (Yes Yes))")

    def test_choose_of_a_pair(self):
        self.check(("choose", Z, (("Pair", ("x", "y"), ("does", "+", X, Y)),)), "(choose z (Pair x y (+ x y)))")

    def test_first(self):
        self.check(("first", X, ("first", ONE, Y)), "(first x (first 1 y))")

    def test_stop(self):
        self.check(("stop", "full"), "(stop full)")

    def test_rows_with_no_step(self):
        self.check(("rows", X, ()), "(rows x)")
        self.check(("rows", ("rows", NIL, ()), ()), "(rows (rows Nil))")

    def test_rows_with_each_sort_of_step(self):
        self.check(("rows", X, (("in", "x", Y),)), "(rows x (in x y))")
        self.check(("rows", X, (("when", YES),)), "(rows x (when Yes))")
        self.check(("rows", X, (("be", "x", ONE),)), "(rows x (be x 1))")

    def test_rows_with_several_steps(self):
        steps = (("in", "x", NIL), ("when", ("does", "<", X, TWO)), ("be", "y", ("call", F, X)), ("in", "x", Y))
        self.check(("rows", ("shape", "Pair", (X, Y)), steps),
                   "(rows (Pair x y) (in x Nil) (when (< x 2)) (be y (f x)) (in x y))")


class InRows(Showing):

    def test_all_funs_in_a_row(self):
        self.check(("fun", "x", ("fun", "y", X)), "(fun x y x)")
        self.check(FUN3, "(fun x y z y)")
        self.check(("fun", "x", ("fun", "x", X)), "(fun x x x)")

    def test_all_calls_in_a_row(self):
        self.check(("call", ("call", F, X), Y), "(f x y)")
        self.check(CALL3, "(f x y z)")

    def test_a_call_that_is_given_is_not_in_the_row(self):
        self.check(("call", F, ("call", G, X)), "(f (g x))")
        self.check(("call", ("call", F, ("call", G, X)), ("call", G, Y)), "(f (g x) (g y))")
        self.check(("call", ("call", F, X), CALL3), "(f x (f x y z))")

    def test_a_fun_that_is_given_is_not_in_the_row(self):
        self.check(("fun", "x", ("call", FUN3, FUN3)), "(fun x ((fun x y z y) (fun x y z y)))")
        self.check(("fun", "x", ("first", FUN3, X)), "(fun x (first (fun x y z y) x))")

    def test_calls_of_a_fun(self):
        self.check(("call", ("fun", "x", X), ONE), "((fun x x) 1)")
        self.check(("call", ("call", FUN3, ONE), TWO), "((fun x y z y) 1 2)")
        self.check(("fun", "x", ("fun", "y", CALL3)), "(fun x y (f x y z))")

    def test_calls_of_other_terms(self):
        self.check(("call", ("call", ("let", (("x", FUN3),), X), ONE), TWO), "((let (x (fun x y z y)) x) 1 2)")
        self.check(("call", ("call", NIL, ONE), TWO), "(Nil 1 2)")

    def test_rows_of_both_within_each_sort_of_term(self):
        fun, call = "(fun x y z y)", "(f x y z)"
        self.check(("does", "+", FUN3, CALL3), "(+ " + fun + " " + call + ")")
        self.check(("let", (("x", FUN3), ("y", CALL3)), CALL3), "(let (x " + fun + ") (y " + call + ") " + call + ")")
        self.check(("let", (("x", CALL3),), FUN3), "(let (x " + call + ") " + fun + ")")
        self.check(("shape", "Cons", (FUN3, CALL3)), "(Cons " + fun + " " + call + ")")
        self.check(("choose", CALL3, (("Nil", (), FUN3), ("Cons", ("x", "y"), CALL3))),
                   "(choose " + call + " (Nil " + fun + ") (Cons x y " + call + "))")
        self.check(("first", CALL3, FUN3), "(first " + call + " " + fun + ")")
        self.check(("rows", FUN3, (("in", "x", CALL3), ("when", CALL3), ("be", "y", FUN3))),
                   "(rows " + fun + " (in x " + call + ") (when " + call + ") (be y " + fun + "))")


class Again(Showing):

    def test_blanks_and_line_ends_go(self):
        self.again("  ( +   1 \n\n 2  )\n", "(+ 1 2)")
        self.again("(let(x 1)(y 2)x)", "(let (x 1) (y 2) x)")
        self.again("( choose z ( Nil 1 )( Cons x y ( f(f x)y ) ) )", "(choose z (Nil 1) (Cons x y (f (f x) y)))")
        self.again("\nx ", "x")

    def test_funs_and_calls_written_apart(self):
        for text in ("(fun x y z y)", "(fun x (fun y (fun z y)))", "(fun x y (fun z y))", "(fun x (fun y z y))"):
            self.again(text, "(fun x y z y)")
        for text in ("(f x y z)", "(((f x) y) z)", "((f x) y z)", "((f x y) z)"):
            self.again(text, "(f x y z)")

    def test_terms_of_many_sorts(self):
        chance = random.Random(7)
        sorts = {}
        for place in range(400):
            term = some_term(chance, chance.randrange(6))
            sorts[term[0]] = True
            text = show(term)
            self.assertEqual(read(text), term)
            self.assertEqual(show(read(text)), text)
            for barred in ("  ", "( ", " )", "\n"):
                self.assertNotIn(barred, text)
        self.assertEqual(len(sorts), 11)


class Bounds(Showing):

    def test_depth_twenty_four(self):
        term = X
        for level in range(23):
            term = ("choose", term, (("Nil", (), ONE), ("Cons", ("x", "y"), Y)))
        self.check(term, "(choose " * 23 + "x" + " (Nil 1) (Cons x y y))" * 23)

    def test_four_hundred_parts(self):
        layer = [("name", "n" + str(place)) for place in range(200)]
        while len(layer) > 1:
            layer = [("call", layer[k], layer[k + 1]) for k in range(0, len(layer) - 1, 2)] + layer[len(layer) // 2 * 2:]
        self.assertEqual(size(layer[0]), 399)
        self.assertEqual(read(show(layer[0])), layer[0])

    def test_deeper_terms_such_as_the_program_makes(self):
        term = Y
        for level in range(300):
            term = ("first", X, term)
        self.assertEqual(depth(term), 301)
        self.assertEqual(show(term), "(first x " * 300 + "y" + ")" * 300)


if __name__ == "__main__":
    unittest.main()
