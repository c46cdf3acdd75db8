"""Points 6 and 7: which terms texts write, and which texts write none."""

import unittest

from idlegraph.errors import NoText
from idlegraph.terms import depth, parts
from idlegraph.texts import is_number, read

WORDS = ("fun", "let", "choose", "first", "stop", "rows", "in", "when", "be")
OPS = ("+", "-", "*", "<", "=")

X = ("name", "x")
Y = ("name", "y")
Z = ("name", "z")
F = ("name", "f")
ONE = ("number", 1)
TWO = ("number", 2)
NIL = ("shape", "Nil", ())
NO = ("shape", "No", ())
YES = ("shape", "Yes", ())


def size(term):
    return 1 + sum(size(part) for part in parts(term))


class Reading(unittest.TestCase):

    def check(self, text, term):
        with self.subTest(text):
            self.assertEqual(read(text), term)

    def refused(self, *texts):
        for text in texts:
            with self.subTest(text):
                with self.assertRaises(NoText):
                    read(text)


class Words(Reading):

    def test_names(self):
        self.check("x", X)
        self.check("abcdefgh", ("name", "abcdefgh"))
        self.check("a1b2", ("name", "a1b2"))
        self.check("funs", ("name", "funs"))
        self.check("nil", ("name", "nil"))

    def test_what_is_no_name(self):
        self.refused("abcdefghi", "X", "xY", "x_y", "x.y", "1x", "x'", "Foo", "~", "nil,", "x+", "\u00e9")

    def test_numbers(self):
        self.check("0", ("number", 0))
        self.check("7", ("number", 7))
        self.check("10", ("number", 10))
        self.check("1234567890", ("number", 1234567890))

    def test_eighteen_figures(self):
        self.check("9" * 18, ("number", 10 ** 18 - 1))
        self.check("1" + "0" * 17, ("number", 10 ** 17))

    def test_the_number_is_a_whole_number(self):
        for text in ("0", "1"):
            self.assertIs(type(read(text)[1]), int)

    def test_nineteen_figures(self):
        self.refused("1" + "0" * 18, "9" * 19, "0" * 19, "(+ 1 " + "1" * 19 + ")")

    def test_a_nought_ahead_of_figures(self):
        self.refused("00", "01", "007", "0" * 18, "(+ 1 00)")

    def test_other_ways_to_write_numbers(self):
        self.refused("-1", "+1", "1.0", "1e3", "1_000", "0x1", "1,", "\u0663", "\u00b2", "1\u0663")

    def test_a_word_without_signs_is_no_number(self):
        self.assertIs(is_number(""), False)

    def test_shapes_that_write_themselves(self):
        self.check("Nil", NIL)
        self.check("No", NO)
        self.check("Yes", YES)

    def test_shapes_with_parts_by_themselves(self):
        self.refused("Cons", "Pair", "(f Cons)", "(f Pair)", "(fun x Cons)", "(+ Pair 1)")

    def test_ops_by_themselves(self):
        for op in OPS:
            self.refused(op, "(f " + op + ")", "(+ 1 " + op + ")", "(fun x " + op + ")", "((" + op + ") 1 2)")

    def test_the_nine_words_by_themselves(self):
        for word in WORDS:
            self.refused(word, "(f " + word + ")", "(+ 1 " + word + ")", "(fun x " + word + ")")

    def test_step_words_ahead_of_a_bracket(self):
        self.refused("(in x Nil)", "(when Yes)", "(be x 1)", "(in x)", "(when x y)")


class Blanks(Reading):

    def test_any_number_of_blanks_and_line_ends(self):
        self.check("   x  ", X)
        self.check("\n\nx\n \n", X)
        self.check("  ( +   1 \n\n 2  )\n", ("does", "+", ONE, TWO))
        self.check("(f\nx)", ("call", F, X))

    def test_no_blanks_about_brackets(self):
        self.check("(f(f x)y)", ("call", ("call", F, ("call", F, X)), Y))
        self.check("((fun x x)1)", ("call", ("fun", "x", X), ONE))
        self.check("(let(x 1)(y 2)x)", ("let", (("x", ONE), ("y", TWO)), X))

    def test_blanks_about_brackets(self):
        self.check("( let ( x 1 ) ( y 2 ) x )", ("let", (("x", ONE), ("y", TWO)), X))

    def test_words_run_together(self):
        self.refused("(+1 2)", "(f x,y)")
        self.check("(f xy)", ("call", F, ("name", "xy")))
        self.check("(f x1)", ("call", F, ("name", "x1")))

    def test_other_signs_part_no_words(self):
        self.refused("(f\tx)", "(f\u00a0x)", "(f\u2028x)", "(f\fx)", "x\t", "(f [x])", "{x}")


class Forms(Reading):

    def test_does(self):
        for op in OPS:
            self.check("(" + op + " x 2)", ("does", op, X, TWO))
            self.refused("(" + op + ")", "(" + op + " x)", "(" + op + " x 1 2)")

    def test_fun(self):
        self.check("(fun x x)", ("fun", "x", X))
        self.check("(fun x (+ x 1))", ("fun", "x", ("does", "+", X, ONE)))

    def test_funs_written_together_and_apart(self):
        within = ("fun", "x", ("fun", "y", ("fun", "z", Y)))
        for text in ("(fun x y z y)", "(fun x (fun y (fun z y)))", "(fun x y (fun z y))", "(fun x (fun y z y))"):
            self.check(text, within)

    def test_funs_may_have_like_names(self):
        self.check("(fun x x x)", ("fun", "x", ("fun", "x", X)))

    def test_no_fun(self):
        self.refused("(fun)", "(fun x)", "(fun (x) x)", "(fun 1 x)", "(fun x 1 y)", "(fun Nil x)", "(fun fun x)",
                     "(fun (x y) x)", "(fun x (y) z)", "(fun x ())", "(fun (x x))", "(fun x + y)")

    def test_call(self):
        self.check("(f x)", ("call", F, X))
        self.check("((fun x x) 1)", ("call", ("fun", "x", X), ONE))

    def test_calls_written_together_and_apart(self):
        called = ("call", ("call", ("call", F, X), Y), Z)
        for text in ("(f x y z)", "(((f x) y) z)", "((f x) y z)", "((f x y) z)"):
            self.check(text, called)
        self.check("(f (x y))", ("call", F, ("call", X, Y)))

    def test_whatever_is_called(self):
        self.check("(Nil 0)", ("call", NIL, ("number", 0)))
        self.check("(No x)", ("call", NO, X))
        self.check("(Yes Nil No)", ("call", ("call", YES, NIL), NO))
        self.check("(1 2)", ("call", ONE, TWO))
        self.check("((Cons 1 Nil) 2)", ("call", ("shape", "Cons", (ONE, NIL)), TWO))
        self.check("((stop x) 1)", ("call", ("stop", "x"), ONE))

    def test_no_call(self):
        self.refused("()", "(x)", "(Nil)", "(1)", "((f x))", "(f ())", "(() x)", "(f (x))")

    def test_let(self):
        self.check("(let (x 1) x)", ("let", (("x", ONE),), X))
        self.check("(let (x y) (y x) (f x))", ("let", (("x", Y), ("y", X)), ("call", F, X)))
        self.check("(let (x (f x)) (y z))", ("let", (("x", ("call", F, X)),), ("call", Y, Z)))

    def test_let_of_five_names(self):
        pairs = tuple((name, ("number", place)) for place, name in enumerate("edcba"))
        self.check("(let (e 0) (d 1) (c 2) (b 3) (a 4) x)", ("let", pairs, X))

    def test_lets_of_none_and_of_six_names(self):
        self.refused("(let)", "(let x)", "(let (x 1))", "(let (a 0) (b 1) (c 2) (d 3) (e 4) (f 5) x)")

    def test_lets_with_like_names(self):
        self.refused("(let (x 1) (x 2) x)", "(let (x 1) (y 2) (x 1) x)", "(let (y 1) (x 2) (x 1) x)")
        self.check("(let (x 1) (let (x 2) x))", ("let", (("x", ONE),), ("let", (("x", TWO),), X)))

    def test_no_let(self):
        self.refused("(let x 1 x)", "(let (x) x)", "(let () x)", "(let (x 1 2) x)", "(let (1 x) x)", "(let (Nil 1) x)",
                     "(let (let 1) x)", "(let ((x) 1) x)", "(let xy x)", "(let (x 1) ())", "(let (x ()) x)",
                     "(let (x 1) x y)", "(let (x +) x)")

    def test_shapes_with_parts(self):
        self.check("(Cons 1 Nil)", ("shape", "Cons", (ONE, NIL)))
        self.check("(Pair x (Pair 1 2))", ("shape", "Pair", (X, ("shape", "Pair", (ONE, TWO)))))

    def test_shapes_with_a_wrong_number_of_parts(self):
        for shape in ("Cons", "Pair"):
            self.refused("(" + shape + ")", "(" + shape + " 1)", "(" + shape + " 1 2 3)")

    def test_first(self):
        self.check("(first x 1)", ("first", X, ONE))
        self.refused("(first)", "(first x)", "(first x y z)")

    def test_stop(self):
        self.check("(stop x)", ("stop", "x"))
        self.check("(stop full)", ("stop", "full"))
        self.refused("(stop)", "(stop x y)", "(stop 1)", "(stop (x))", "(stop Nil)", "(stop stop)", "(stop abcdefghi)",
                     "(stop (f x))", "(stop +)")


class Choosing(Reading):

    def test_each_family(self):
        self.check("(choose z (Nil 1) (Cons x y x))",
                   ("choose", Z, (("Nil", (), ONE), ("Cons", ("x", "y"), X))))
        self.check("(choose z (No 1) (Yes 2))", ("choose", Z, (("No", (), ONE), ("Yes", (), TWO))))
        self.check("(choose z (Pair x y y))", ("choose", Z, (("Pair", ("x", "y"), Y),)))

    def test_terms_within(self):
        self.check("(choose (f x) (Nil (f y)) (Cons x y (f z)))",
                   ("choose", ("call", F, X),
                    (("Nil", (), ("call", F, Y)), ("Cons", ("x", "y"), ("call", F, Z)))))
        self.check("(choose Nil (Nil Nil) (Cons nil cons No))",
                   ("choose", NIL, (("Nil", (), NIL), ("Cons", ("nil", "cons"), NO))))

    def test_another_order(self):
        self.refused("(choose z (Cons x y x) (Nil 1))", "(choose z (Yes 2) (No 1))", "(choose (Nil 1) z (Cons x y x))")

    def test_two_families(self):
        self.refused("(choose z (Nil 1) (Yes 2))", "(choose z (No 1) (Cons x y x))", "(choose z (Nil 1) (Pair x y x))",
                     "(choose z (Nil 1) (Cons x y x) (Pair x y y))", "(choose z (Pair x y y) (No 1) (Yes 1))")

    def test_too_few_and_too_many(self):
        self.refused("(choose)", "(choose z)", "(choose z (Nil 1))", "(choose z (Cons x y x))", "(choose z (No 1))",
                     "(choose z (Yes 1))", "(choose z (Nil 1) (Nil 1) (Cons x y x))",
                     "(choose z (Nil 1) (Cons x y x) (Cons x y x))", "(choose z (Pair x y x) (Pair x y x))",
                     "(choose z (No 1) (Yes 1) (Yes 1))")

    def test_like_names(self):
        self.refused("(choose z (Nil 1) (Cons x x x))", "(choose z (Pair y y 1))")

    def test_a_wrong_number_of_names(self):
        self.refused("(choose z (Nil x 1) (Cons x y x))", "(choose z (Nil 1) (Cons x 1))", "(choose z (Nil 1) (Cons 1))",
                     "(choose z (Nil 1) (Cons x y z 1))", "(choose z (No x 1) (Yes 1))", "(choose z (No 1) (Yes x 1))",
                     "(choose z (Pair 1))", "(choose z (Pair x 1))", "(choose z (Pair x y z 1))")

    def test_no_alternatives(self):
        self.refused("(choose z Nil (Cons x y x))", "(choose z (Nil) (Cons x y x))", "(choose z (Nil 1) (Cons))",
                     "(choose z (Nil 1) ())", "(choose z ((Nil) 1) (Cons x y x))", "(choose z (x 1) (Cons x y x))",
                     "(choose z (Nil 1) (Cons 1 2 x))", "(choose z (Nil 1) (Cons x Nil x))",
                     "(choose z (Nil 1) (Cons (x) y x))", "(choose z (Nil 1) (Cons (x y) x))",
                     "(choose z (Foo 1))", "(choose z No Yes)", "(choose z (Pair in be x))",
                     "(choose z (Nil +) (Cons x y x))", "(choose z (Nil 1) (Cons x y ()))",
                     "(choose () (Nil 1) (Cons x y x))")


class Rows(Reading):

    def test_no_step(self):
        self.check("(rows x)", ("rows", X, ()))

    def test_each_sort_of_step(self):
        self.check("(rows x (in x y))", ("rows", X, (("in", "x", Y),)))
        self.check("(rows x (when Yes))", ("rows", X, (("when", YES),)))
        self.check("(rows x (be x 1))", ("rows", X, (("be", "x", ONE),)))

    def test_several_steps(self):
        self.check("(rows (Pair x y) (in x Nil) (when (< x 2)) (be y x) (in x y) (be x 1))",
                   ("rows", ("shape", "Pair", (X, Y)),
                    (("in", "x", NIL), ("when", ("does", "<", X, TWO)), ("be", "y", X), ("in", "x", Y),
                     ("be", "x", ONE))))

    def test_rows_within_rows(self):
        inner = ("rows", Y, (("in", "y", NIL),))
        self.check("(rows (rows y (in y Nil)) (in x (rows y (in y Nil))))", ("rows", inner, (("in", "x", inner),)))

    def test_a_call_where_the_term_stands(self):
        self.check("(rows (f x) (when (f x)))", ("rows", ("call", F, X), (("when", ("call", F, X)),)))

    def test_steps_of_another_form(self):
        self.refused("(rows)", "(rows x y)", "(rows x in)", "(rows x ())", "(rows x (in))", "(rows x (in x))",
                     "(rows x (in x y z))", "(rows x (in 1 y))", "(rows x (in (x) y))", "(rows x (in Nil y))",
                     "(rows x (when))", "(rows x (when x y))", "(rows x (be))", "(rows x (be x))", "(rows x (be x y z))",
                     "(rows x (be 1 y))", "(rows x (be when y))", "(rows x (f y))", "(rows x (x y z))",
                     "(rows x (let (x 1) x))", "(rows x ((in) x y))", "(rows x ((in x y)))", "(rows x (when +))",
                     "(rows (in x y))", "(rows (in x y) x)", "(rows x (in x ()))")


class Refusals(Reading):

    def test_a_bracket_too_few(self):
        self.refused("(", "(f x", "(f (g x)", "((f x)", "(fun x (+ x 1)", "((")

    def test_a_bracket_too_many(self):
        self.refused(")", "x)", "(f x))", ")x", ")(", "(f x)) (f x", "x )(", "(f x)(")

    def test_no_words(self):
        self.refused("", " ", "\n", "  \n \n ")

    def test_two_terms(self):
        self.refused("x y", "1 2", "(f x) (f x)", "(f x)(f x)", "x (f x)", "(f x) 1", "Nil Nil")

    def test_what_is_no_text(self):
        self.refused(None, 0, 1, True, b"x", ["x"], ("name", "x"), {}, [])

    def test_a_wrong_part_far_within(self):
        self.refused("(fun x (let (y (choose x (Nil 1) (Cons a b (first a (f +))))) y))")

    def test_refusals_are_taken_as_value_errors(self):
        with self.assertRaises(ValueError):
            read("(x)")


class Bounds(Reading):

    def test_brackets_sixty_deep(self):
        called = X
        for level in range(60):
            called = ("call", called, ONE)
        self.check("(" * 60 + "x" + " 1)" * 60, called)
        given = X
        for level in range(60):
            given = ("call", F, given)
        self.check("(f " * 60 + "x" + ")" * 60, given)

    def test_brackets_sixty_deep_that_write_no_term(self):
        self.refused("(" * 60 + ")" * 60, "(" * 60 + "x" + ")" * 60, "(f " * 60 + "+" + ")" * 60, "(" * 60,
                     "(f " * 60 + "x" + ")" * 59, "(f " * 60 + "x" + ")" * 61)

    def test_two_brackets_for_each_depth(self):
        self.assertEqual(depth(read("(let (x " * 23 + "x" + ") x)" * 23)), 24)
        self.assertEqual(depth(read("(choose z (Pair x y " * 23 + "x" + "))" * 23)), 24)
        self.assertEqual(depth(read("(choose z (Nil 1) (Cons x y " * 23 + "x" + "))" * 23)), 24)
        self.assertEqual(depth(read("(rows x (in x " * 11 + "(f x)" + "))" * 11)), 24)

    def test_four_hundred_parts_in_twenty_thousand_signs(self):
        row = "(Cons  12  " * 16
        text = "(f " + " ".join([row + "Nil" + ")" * 16] * 11) + ")"
        text = text + "\n" * (20000 - len(text))
        self.assertEqual(len(text), 20000)
        term = read(text)
        self.assertEqual(size(term), 1 + 11 + 11 * 33)
        self.assertEqual(term[2][2][0], ("number", 12))

    def test_the_same_text_again(self):
        text = "(let (x (fun y z (Cons y z))) (choose x (No 1) (Yes (rows 1 (when Yes)))))"
        self.assertEqual(read(text), read(text))
        self.assertEqual(hash(read(text)), hash(read(text)))


if __name__ == "__main__":
    unittest.main()
