"""Points 12 and 14: what comes of two numbers, and what is picked of alternatives."""

import unittest

from idlegraph.rules import is_mark, is_value, picked, reckoned

GREATEST = 10 ** 18 - 1
YES = ("made", "Yes", ())
NO = ("made", "No", ())

X = ("name", "x")
Y = ("name", "y")
Z = ("name", "z")
ONE = ("number", 1)
TWO = ("number", 2)
NIL = ("shape", "Nil", ())


class Sorts(unittest.TestCase):

    def test_marks(self):
        for mark in (("at", 0), ("shut", 1), ("ring", 2), ("at", 3, X)):
            self.assertIs(is_mark(mark), True)
            self.assertIs(is_value(mark), False)

    def test_values(self):
        for value in (("number", 0), ("fun", "x", X), YES, ("made", "Cons", (("at", 0), ("at", 1)))):
            self.assertIs(is_value(value), True)
            self.assertIs(is_mark(value), False)

    def test_other_terms(self):
        for term in (NIL, ("shape", "Cons", (ONE, NIL)), ("call", X, X), ("does", "+", ONE, ONE), ("stop", "at"),
                     ("first", ONE, ONE), ("let", (("x", ONE),), X), ("choose", NIL, (("Pair", ("x", "y"), X),))):
            self.assertIs(is_value(term), False)
            self.assertIs(is_mark(term), False)


class Reckoned(unittest.TestCase):

    def check(self, op, *rows):
        for one, other, outcome in rows:
            with self.subTest(op=op, one=one, other=other):
                given = reckoned(op, one, other)
                self.assertEqual(given, outcome if isinstance(outcome, tuple) else ("number", outcome))
                self.assertIs(type(given), tuple)
                if given[0] == "number":
                    self.assertIs(type(given[1]), int)

    def test_plus(self):
        self.check("+", (1, 2, 3), (0, 0, 0), (0, 7, 7), (7, 0, 7), (5, 5, 10), (GREATEST, 0, GREATEST),
                   (GREATEST - 1, 1, GREATEST), (GREATEST, 1, 0), (1, GREATEST, 0), (GREATEST, 8, 7),
                   (GREATEST, GREATEST, GREATEST - 1))

    def test_minus(self):
        self.check("-", (5, 3, 2), (0, 0, 0), (7, 0, 7), (9, 9, 0), (GREATEST, GREATEST, 0), (GREATEST, 1, GREATEST - 1))

    def test_minus_below_nothing(self):
        self.check("-", (0, 1, GREATEST), (3, 5, GREATEST - 1), (0, GREATEST, 1), (1, GREATEST, 2))

    def test_times(self):
        self.check("*", (3, 4, 12), (0, 0, 0), (0, GREATEST, 0), (GREATEST, 0, 0), (1, GREATEST, GREATEST), (6, 6, 36),
                   (10 ** 9, 10 ** 9 - 1, GREATEST + 1 - 10 ** 9))

    def test_times_far_above(self):
        self.check("*", (10 ** 9, 10 ** 9, 0), (GREATEST, GREATEST, 1), (GREATEST, 2, GREATEST - 1),
                   (10 ** 17, 11, 10 ** 17), (123456789012345678, 987654321098765432, 322511812221002896))

    def test_less(self):
        self.check("<", (1, 2, YES), (2, 1, NO), (2, 2, NO), (0, 0, NO), (0, 1, YES), (0, GREATEST, YES), (GREATEST, 0, NO),
                   (GREATEST, GREATEST, NO), (GREATEST - 1, GREATEST, YES), (9, 10, YES))

    def test_alike(self):
        self.check("=", (1, 1, YES), (1, 2, NO), (2, 1, NO), (0, 0, YES), (0, GREATEST, NO), (GREATEST, GREATEST, YES),
                   (GREATEST - 1, GREATEST, NO), (10, 1, NO))


def listing(nil, names, cons):
    return (("Nil", (), nil), ("Cons", names, cons))


def made(shape, *marks):
    return ("made", shape, marks)


class Picked(unittest.TestCase):

    def check(self, value, alternatives, wanted):
        with self.subTest(value=value, alternatives=alternatives):
            self.assertEqual(picked(value, alternatives), wanted)

    def test_a_list(self):
        alternatives = listing(TWO, ("x", "y"), ("call", Y, X))
        self.check(made("Nil"), alternatives, TWO)
        self.check(made("Cons", ("at", 4), ("at", 0)), alternatives, ("call", ("at", 0), ("at", 4)))

    def test_a_truth(self):
        alternatives = (("No", (), ONE), ("Yes", (), TWO))
        self.check(NO, alternatives, ONE)
        self.check(YES, alternatives, TWO)

    def test_a_pair(self):
        alternatives = (("Pair", ("x", "y"), ("shape", "Cons", (Y, X))),)
        self.check(made("Pair", ("at", 1), ("at", 2)), alternatives, ("shape", "Cons", (("at", 2), ("at", 1))))

    def test_the_same_mark_for_both(self):
        self.check(made("Pair", ("at", 3), ("at", 3)), (("Pair", ("x", "y"), ("call", X, Y)),),
                   ("call", ("at", 3), ("at", 3)))

    def test_marks_of_each_word(self):
        for word in ("at", "shut", "ring"):
            self.check(made("Cons", (word, 5), (word, 6)), listing(ONE, ("x", "y"), ("first", X, Y)),
                       ("first", (word, 5), (word, 6)))

    def test_a_body_that_is_a_name(self):
        self.check(made("Cons", ("at", 8), ("at", 9)), listing(ONE, ("x", "y"), X), ("at", 8))
        self.check(made("Cons", ("at", 8), ("at", 9)), listing(ONE, ("x", "y"), Y), ("at", 9))

    def test_names_deep_within(self):
        body = ("let", (("z", ("fun", "a", X)),), ("choose", Z, (("Pair", ("a", "b"), ("does", "+", X, Y)),)))
        self.check(made("Cons", ("at", 1), ("at", 2)), listing(ONE, ("x", "y"), body),
                   ("let", (("z", ("fun", "a", ("at", 1))),),
                    ("choose", Z, (("Pair", ("a", "b"), ("does", "+", ("at", 1), ("at", 2))),))))

    def test_names_bound_again(self):
        value = made("Pair", ("at", 1), ("at", 2))
        for body, wanted in (
                (("fun", "x", ("call", X, Y)), ("fun", "x", ("call", X, ("at", 2)))),
                (("let", (("y", X),), Y), ("let", (("y", ("at", 1)),), Y)),
                (("choose", X, listing(X, ("x", "z"), X)), ("choose", ("at", 1), listing(("at", 1), ("x", "z"), X)))):
            self.check(value, (("Pair", ("x", "y"), body),), wanted)

    def test_names_that_do_not_stand_there(self):
        value = made("Cons", ("at", 1), ("at", 2))
        self.check(value, listing(ONE, ("x", "y"), TWO), TWO)
        self.check(value, listing(ONE, ("x", "y"), ("stop", "x")), ("stop", "x"))
        self.check(value, listing(ONE, ("x", "y"), ("call", X, NIL)), ("call", ("at", 1), NIL))

    def test_other_names_and_marks_stay(self):
        self.check(made("Cons", ("at", 1), ("at", 2)), listing(ONE, ("x", "y"), ("call", Z, ("call", ("at", 7), X))),
                   ("call", Z, ("call", ("at", 7), ("at", 1))))
        self.check(made("Nil"), listing(X, ("x", "y"), Y), X)

    def test_a_made_shape_of_another_family(self):
        families = (listing(ONE, ("x", "y"), X), (("No", (), ONE), ("Yes", (), TWO)), (("Pair", ("x", "y"), Y),))
        shapes = ((made("Nil"), made("Cons", ("at", 1), ("at", 2))), (NO, YES), (made("Pair", ("at", 1), ("at", 2)),))
        for place, alternatives in enumerate(families):
            for other, values in enumerate(shapes):
                for value in values:
                    with self.subTest(value=value, alternatives=alternatives):
                        self.assertEqual(picked(value, alternatives) is None, place != other)

    def test_what_is_no_made_shape(self):
        for alternatives in (listing(ONE, ("x", "y"), X), (("No", (), ONE), ("Yes", (), TWO)), (("Pair", ("x", "y"), Y),)):
            for value in (("number", 0), ("number", 5), ("fun", "x", X), ("fun", "x", NIL)):
                with self.subTest(value=value, alternatives=alternatives):
                    self.assertIsNone(picked(value, alternatives))


if __name__ == "__main__":
    unittest.main()
