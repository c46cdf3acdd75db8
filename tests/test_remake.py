"""Points 3 and 4: a term made anew with other parts in the place of its own."""

import unittest

from idlegraph.remake import with_parts
from idlegraph.terms import parts

X, Y, Z = ("name", "x"), ("name", "y"), ("name", "z")
ONE = ("number", 1)
NIL = ("shape", "Nil", ())
LISTING = ("choose", Z, (("Nil", (), ONE), ("Cons", ("a", "b"), X)))
ROWS = ("rows", X, (("in", "x", NIL), ("when", Y), ("be", "z", ONE)))

TERMS = (X, ONE, ("stop", "x"), NIL, ("at", 3), ("shut", 4), ("ring", 5), ("does", "-", X, ONE), ("fun", "x", Y),
         ("call", X, Y), ("first", X, Y), ("let", (("x", ONE),), Y), ("let", (("b", X), ("a", Y)), Z),
         ("shape", "Cons", (X, NIL)), ("shape", "Pair", (ONE, X)), LISTING,
         ("choose", Z, (("No", (), X), ("Yes", (), Y))), ("choose", Z, (("Pair", ("a", "b"), X),)),
         ("rows", X, ()), ROWS)


class WithParts(unittest.TestCase):

    def test_other_parts(self):
        for term in TERMS:
            with self.subTest(term):
                others = [("at", place) for place in range(len(parts(term)))]
                changed = with_parts(term, others)
                self.assertEqual(parts(changed), others)
                self.assertEqual(with_parts(changed, parts(term)), term)

    def test_all_but_the_parts_stays(self):
        self.assertEqual(with_parts(("does", "-", X, Y), [ONE, NIL]), ("does", "-", ONE, NIL))
        self.assertEqual(with_parts(("fun", "x", Y), [X]), ("fun", "x", X))
        self.assertEqual(with_parts(("let", (("b", X), ("a", Y)), Z), [ONE, NIL, X]), ("let", (("b", ONE), ("a", NIL)), X))
        self.assertEqual(with_parts(LISTING, [X, Y, NIL]), ("choose", X, (("Nil", (), Y), ("Cons", ("a", "b"), NIL))))
        self.assertEqual(with_parts(ROWS, [ONE, X, Y, Z]), ("rows", ONE, (("in", "x", X), ("when", Y), ("be", "z", Z))))

    def test_what_was_handed_in_stays_as_it_was(self):
        given = [X, Y, NIL]
        made = with_parts(LISTING, given)
        self.assertEqual(given, [X, Y, NIL])
        given.clear()
        self.assertEqual(parts(made), [X, Y, NIL])


if __name__ == "__main__":
    unittest.main()
