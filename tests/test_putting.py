"""Points 1, 6 and 11: marks put in place of names."""

import unittest

from idlegraph.putting import put
from idlegraph.terms import depth

X = ("name", "x")
Y = ("name", "y")
Z = ("name", "z")
ONE = ("number", 1)
NIL = ("shape", "Nil", ())

AT = ("at", 0)
SHUT = ("shut", 7)
RING = ("ring", 12)
# These hold more than a mark needs, a name among it, and are marks all the same.
LONG_MARKS = (("at", 3, X), ("shut", 3, X, "x"), ("ring", 3, "x"))
MARKS = (AT, SHUT, RING) + LONG_MARKS

TWO_MARKS = {"x": AT, "y": SHUT}


def let(*pairs_and_body):
    return ("let", tuple(pairs_and_body[:-1]), pairs_and_body[-1])


def rows(body, *steps):
    return ("rows", body, tuple(steps))


def listing(term, nil, names, cons):
    return ("choose", term, (("Nil", (), nil), ("Cons", names, cons)))


class Putting(unittest.TestCase):

    def check(self, term, changed, marks=TWO_MARKS):
        with self.subTest(term):
            handed = dict(marks)
            given = put(term, handed)
            self.assertIsInstance(given, tuple)
            self.assertEqual(given, changed)
            self.assertEqual(handed, marks)

    def stays(self, *terms):
        for term in terms:
            self.check(term, term)


class Sorts(Putting):

    def test_a_name(self):
        self.check(X, AT)
        self.check(Y, SHUT)
        self.check(X, RING, {"x": RING})

    def test_each_mark_as_it_is_handed_in(self):
        for mark in MARKS:
            self.check(("call", X, ("fun", "y", X)), ("call", mark, ("fun", "y", mark)), {"x": mark})

    def test_those_without_names(self):
        self.stays(ONE, ("number", 0), NIL, ("shape", "No", ()), ("shape", "Yes", ()))

    def test_does(self):
        for op in ("+", "-", "*", "<", "="):
            self.check(("does", op, X, Y), ("does", op, AT, SHUT))

    def test_fun(self):
        self.check(("fun", "z", X), ("fun", "z", AT))
        self.check(("fun", "z", ("fun", "a", ("call", X, Z))), ("fun", "z", ("fun", "a", ("call", AT, Z))))

    def test_call(self):
        self.check(("call", X, Y), ("call", AT, SHUT))
        self.check(("call", ("call", Y, X), X), ("call", ("call", SHUT, AT), AT))

    def test_let(self):
        self.check(let(("z", X), ("a", Y), ("call", X, Z)), let(("z", AT), ("a", SHUT), ("call", AT, Z)))
        pairs = [(name, X) for name in "edcba"]
        self.check(let(*pairs, Y), let(*[(name, AT) for name in "edcba"], SHUT))

    def test_shapes_with_parts(self):
        self.check(("shape", "Cons", (X, Y)), ("shape", "Cons", (AT, SHUT)))
        self.check(("shape", "Pair", (Y, ("shape", "Cons", (X, NIL)))),
                   ("shape", "Pair", (SHUT, ("shape", "Cons", (AT, NIL)))))

    def test_choose(self):
        self.check(listing(X, Y, ("a", "b"), X), listing(AT, SHUT, ("a", "b"), AT))
        self.check(("choose", Y, (("No", (), X), ("Yes", (), Y))), ("choose", SHUT, (("No", (), AT), ("Yes", (), SHUT))))
        self.check(("choose", X, (("Pair", ("a", "b"), Y),)), ("choose", AT, (("Pair", ("a", "b"), SHUT),)))

    def test_first(self):
        self.check(("first", X, Y), ("first", AT, SHUT))

    def test_the_word_of_a_stop(self):
        self.stays(("stop", "x"), ("stop", "y"))
        self.check(("first", X, ("stop", "x")), ("first", AT, ("stop", "x")))

    def test_rows(self):
        self.check(rows(X), rows(AT))
        self.check(rows(X, ("in", "z", Y), ("when", X), ("be", "a", Y)),
                   rows(AT, ("in", "z", SHUT), ("when", AT), ("be", "a", SHUT)))

    def test_rows_within_rows(self):
        self.check(rows(rows(X, ("when", Y)), ("in", "z", rows(Y))), rows(rows(AT, ("when", SHUT)), ("in", "z", rows(SHUT))))


class Bound(Putting):

    def test_by_a_fun(self):
        self.stays(("fun", "x", X), ("fun", "x", ("fun", "z", X)), ("fun", "z", ("fun", "x", X)))
        self.check(("fun", "x", ("call", X, Y)), ("fun", "x", ("call", X, SHUT)))
        self.check(("call", ("fun", "x", X), X), ("call", ("fun", "x", X), AT))
        self.check(("call", X, ("fun", "x", X)), ("call", AT, ("fun", "x", X)))
        self.check(("fun", "x", ("fun", "y", ("call", X, Y))), ("fun", "x", ("fun", "y", ("call", X, Y))))

    def test_by_a_let_in_its_body_and_all_its_terms(self):
        self.stays(let(("x", X), X), let(("x", Y), ("y", X), ("call", X, Y)), let(("z", X), ("x", Z), X))
        self.check(let(("x", ("call", X, Y)), ("z", ("call", Y, X)), ("call", Y, X)),
                   let(("x", ("call", X, SHUT)), ("z", ("call", SHUT, X)), ("call", SHUT, X)))
        self.check(("call", let(("x", ONE), X), X), ("call", let(("x", ONE), X), AT))

    def test_by_an_alternative_in_its_own_body_alone(self):
        self.check(listing(X, X, ("x", "z"), X), listing(AT, AT, ("x", "z"), X))
        self.check(listing(X, Y, ("z", "y"), ("call", X, Y)), listing(AT, SHUT, ("z", "y"), ("call", AT, Y)))
        self.check(("choose", X, (("Pair", ("y", "x"), ("call", X, Y)),)),
                   ("choose", AT, (("Pair", ("y", "x"), ("call", X, Y)),)))

    def test_by_a_step_behind_it_and_in_the_term(self):
        for word in ("in", "be"):
            self.check(rows(X, (word, "x", Y)), rows(X, (word, "x", SHUT)))
            self.check(rows(X, (word, "x", NIL), ("when", X), ("in", "z", ("call", X, Y)), ("be", "z", X)),
                       rows(X, (word, "x", NIL), ("when", X), ("in", "z", ("call", X, SHUT)), ("be", "z", X)))

    def test_not_by_a_step_in_its_own_term(self):
        for word in ("in", "be"):
            self.check(rows(X, (word, "x", X)), rows(X, (word, "x", AT)))
            self.check(rows(X, (word, "x", X), (word, "x", X)), rows(X, (word, "x", AT), (word, "x", X)))

    def test_not_by_a_step_in_those_ahead_of_it(self):
        for word in ("in", "be"):
            self.check(rows(Y, ("when", X), ("in", "z", X), (word, "x", NIL), ("when", X)),
                       rows(SHUT, ("when", AT), ("in", "z", AT), (word, "x", NIL), ("when", X)))

    def test_not_beyond_the_rows(self):
        self.check(("call", rows(X, ("in", "x", NIL)), X), ("call", rows(X, ("in", "x", NIL)), AT))
        self.check(rows(X, ("in", "z", rows(X, ("be", "x", NIL)))), rows(AT, ("in", "z", rows(X, ("be", "x", NIL)))))

    def test_free_again_behind_what_binds_it(self):
        self.check(("shape", "Pair", (("fun", "x", X), ("fun", "y", X))),
                   ("shape", "Pair", (("fun", "x", X), ("fun", "y", AT))))


class Others(Putting):

    def test_names_without_a_mark(self):
        self.stays(Z, ("call", Z, ("name", "xy")), ("fun", "z", Z))
        self.check(("call", Z, X), ("call", Z, AT))

    def test_no_marks_at_all(self):
        for term in (X, ("call", X, Y), let(("x", Y), X), listing(X, Y, ("a", "b"), X), rows(X, ("in", "y", X))):
            self.check(term, term, {})

    def test_marks_that_are_not_wanted(self):
        self.check(("call", X, Z), ("call", AT, Z), {"x": AT, "b": RING, "c": SHUT})

    def test_marks_that_stand_in_the_term(self):
        for mark in MARKS:
            self.stays(mark, ("call", mark, mark), ("shape", "Cons", (mark, NIL)), rows(mark, ("in", "z", mark)))
            self.check(("call", mark, X), ("call", mark, AT))
            self.check(let(("x", mark), ("call", X, Y)), let(("x", mark), ("call", X, SHUT)))

    def test_names_alike_to_words_of_terms(self):
        marks = {"name": AT, "at": SHUT, "does": RING, "shape": AT}
        self.check(("call", ("name", "name"), ("name", "at")), ("call", AT, SHUT), marks)
        self.check(("does", "+", ("name", "does"), ("at", 3)), ("does", "+", RING, ("at", 3)), marks)

    def test_the_dict_that_was_handed_in(self):
        marks = {"x": AT, "y": SHUT}
        term = ("fun", "x", let(("y", X), listing(X, Y, ("x", "y"), rows(X, ("in", "x", Y)))))
        self.assertEqual(put(term, marks), term)
        self.assertEqual(list(marks.items()), [("x", AT), ("y", SHUT)])

    def test_what_is_done_to_the_dict_later(self):
        marks = {"x": AT}
        given = put(("call", X, Y), marks)
        marks["x"] = RING
        marks["y"] = RING
        self.assertEqual(given, ("call", AT, Y))
        self.assertEqual(put(("call", X, Y), {"x": AT}), ("call", AT, Y))


class Sharing(Putting):

    def test_what_stays_is_not_made_anew(self):
        kept = listing(Z, ("fun", "x", X), ("x", "y"), let(("x", Y), X))
        self.assertIs(put(kept, TWO_MARKS), kept)
        self.assertIs(put(("call", X, kept), TWO_MARKS)[2], kept)
        self.assertIs(put(rows(X, ("in", "z", kept), ("be", "a", Y)), TWO_MARKS)[2][0][2], kept)


class Bounds(Putting):

    def test_four_hundred_parts(self):
        names = ("x", "z", "y", "a")
        marks = {"x": AT, "z": Z, "y": SHUT, "a": ("name", "a")}
        layer = [("name", names[place % 4]) for place in range(200)]
        wanted = [marks[names[place % 4]] for place in range(200)]
        while len(layer) > 1:
            places = range(0, len(layer) - 1, 2)
            layer = [("call", layer[k], layer[k + 1]) for k in places] + layer[len(layer) // 2 * 2:]
            wanted = [("call", wanted[k], wanted[k + 1]) for k in places] + wanted[len(wanted) // 2 * 2:]
        self.assertEqual(put(layer[0], TWO_MARKS), wanted[0])

    def test_depth_twenty_four(self):
        term, wanted = X, AT
        for level in range(23):
            term, wanted = ("fun", "n" + str(level), term), ("fun", "n" + str(level), wanted)
        self.assertEqual(depth(term), 24)
        self.assertEqual(put(term, TWO_MARKS), wanted)

    def test_deeper_terms_such_as_the_program_makes(self):
        term, wanted = X, AT
        for level in range(200):
            term, wanted = ("first", Z, term), ("first", Z, wanted)
        self.assertEqual(put(term, TWO_MARKS), wanted)


if __name__ == "__main__":
    unittest.main()
