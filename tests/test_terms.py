"""Points 3 to 6: names, parts, depths and free names of terms."""

import unittest

from idlegraph.terms import depth, free, is_name, parts

WORDS = ("fun", "let", "choose", "first", "stop", "rows", "in", "when", "be")

X = ("name", "x")
Y = ("name", "y")
Z = ("name", "z")
ONE = ("number", 1)
NIL = ("shape", "Nil", ())
# The last one holds more than a mark needs, and is one all the same.
MARKS = (("at", 0), ("shut", 7), ("ring", 12), ("shut", 3, X))

# Of depth 1, 2 and 3, for terms whose parts are unlike in depth.
DEEP1 = ONE
DEEP2 = ("fun", "x", DEEP1)
DEEP3 = ("fun", "x", DEEP2)


def let(*pairs_and_body):
    return ("let", tuple(pairs_and_body[:-1]), pairs_and_body[-1])


def rows(body, *steps):
    return ("rows", body, tuple(steps))


def listing(term, nil, cons):
    return ("choose", term, (("Nil", (), nil), ("Cons", ("x", "y"), cons)))


def chain(levels):
    term = ONE
    for level in range(levels - 1):
        term = ("fun", "n" + str(level), term)
    return term


class Names(unittest.TestCase):

    def holds(self, *texts):
        for text in texts:
            with self.subTest(text):
                self.assertIs(is_name(text), True)

    def fails(self, *texts):
        for text in texts:
            with self.subTest(text):
                self.assertIs(is_name(text), False)

    def test_lengths(self):
        self.fails("", "abcdefghi", "a12345678", "a" * 400)
        self.holds("a", "z", "abcdefgh", "a1234567")

    def test_letters_and_figures(self):
        self.holds("abc", "x0", "x9", "a1b2", "qrstuvwz", "ijklmnop")

    def test_every_small_letter_and_figure_may_stand(self):
        self.holds(*["a" + sign for sign in "abcdefghijklmnopqrstuvwxyz0123456789"])
        self.holds(*list("abcdefghijklmnopqrstuvwxyz"))

    def test_a_figure_first(self):
        self.fails("0", "7", "1a", "9abc", "0x")

    def test_great_letters(self):
        self.fails("A", "Ab", "aB", "Nil", "Cons", "abcdefgH")

    def test_blanks_and_line_ends(self):
        self.fails(" ", "a b", " a", "a ", "a\n", "\n")

    def test_other_signs(self):
        self.fails("a_b", "_", "a-b", "+", "a.b", "(", "a)", "~", "a'", "a`", "a{", "a@", "a/", "a:", "a[")

    def test_letters_and_figures_of_other_scripts(self):
        self.fails("\u00e9", "a\u00df", "a\u0663", "a\u00b2", "\u03b1")

    def test_the_nine_words(self):
        self.fails(*WORDS)

    def test_the_nine_words_with_a_sign_more(self):
        self.holds(*[word + "s" for word in WORDS])
        self.holds(*["x" + word for word in WORDS])
        self.holds(*[word + "1" for word in WORDS])

    def test_the_nine_words_with_a_sign_less(self):
        self.holds(*[word[:-1] for word in WORDS])
        self.holds(*[word[1:] for word in WORDS])

    def test_other_words_of_the_language_are_names(self):
        self.holds("nil", "cons", "pair", "yes", "no", "name", "does", "call", "shape", "at", "shut", "ring")


class Parts(unittest.TestCase):

    def check(self, term, expected):
        given = parts(term)
        self.assertIsInstance(given, list)
        self.assertEqual(given, expected)

    def test_those_without_parts(self):
        for term in (X, ONE, ("number", 0), ("stop", "x"), NIL, ("shape", "No", ()), ("shape", "Yes", ())):
            with self.subTest(term):
                self.check(term, [])

    def test_marks(self):
        for mark in MARKS:
            with self.subTest(mark):
                self.check(mark, [])

    def test_marks_as_parts(self):
        self.check(("shape", "Cons", (MARKS[0], MARKS[1])), [MARKS[0], MARKS[1]])
        self.check(("call", MARKS[2], MARKS[0]), [MARKS[2], MARKS[0]])

    def test_does(self):
        for op in ("+", "-", "*", "<", "="):
            with self.subTest(op):
                self.check(("does", op, X, ONE), [X, ONE])

    def test_fun(self):
        self.check(("fun", "x", Y), [Y])

    def test_call(self):
        self.check(("call", X, Y), [X, Y])

    def test_first(self):
        self.check(("first", X, Y), [X, Y])

    def test_let_of_one_name(self):
        self.check(let(("x", ONE), Y), [ONE, Y])

    def test_let_of_five_names(self):
        pairs = [(name, ("number", place)) for place, name in enumerate("edcba")]
        self.check(let(*pairs, X), [("number", place) for place in range(5)] + [X])

    def test_shapes(self):
        self.check(("shape", "Cons", (X, NIL)), [X, NIL])
        self.check(("shape", "Pair", (ONE, X)), [ONE, X])

    def test_choose(self):
        self.check(listing(Z, ONE, X), [Z, ONE, X])
        self.check(("choose", Z, (("No", (), X), ("Yes", (), Y))), [Z, X, Y])
        self.check(("choose", Z, (("Pair", ("a", "b"), X),)), [Z, X])

    def test_rows_with_no_step(self):
        self.check(rows(X), [X])

    def test_rows_with_each_sort_of_step(self):
        self.check(rows(X, ("in", "a", Y)), [X, Y])
        self.check(rows(X, ("when", Y)), [X, Y])
        self.check(rows(X, ("be", "a", Y)), [X, Y])

    def test_rows_with_several_steps(self):
        steps = (("in", "x", NIL), ("when", Y), ("be", "z", ONE), ("in", "y", Z), ("when", X))
        self.check(rows(("stop", "w"), *steps), [("stop", "w"), NIL, Y, ONE, Z, X])

    def test_parts_of_parts_are_none(self):
        inner = ("call", X, Y)
        self.check(("fun", "z", inner), [inner])

    def test_like_parts_are_all_told(self):
        self.check(("does", "+", X, X), [X, X])

    def test_the_list_is_the_askers_own(self):
        terms = (X, MARKS[0], NIL, ("call", X, Y), let(("x", ONE), Y), listing(Z, ONE, X),
                 ("shape", "Pair", (X, Y)), rows(X, ("when", Y)), rows(X))
        for term in terms:
            with self.subTest(term):
                given = parts(term)
                before = list(given)
                given.append(("stop", "gone"))
                given.reverse()
                self.assertEqual(parts(term), before)


class Depths(unittest.TestCase):

    def test_those_without_parts(self):
        for term in (X, ONE, ("stop", "x"), NIL, ("shape", "No", ()), ("shape", "Yes", ())) + MARKS:
            with self.subTest(term):
                self.assertEqual(depth(term), 1)

    def test_marks_as_parts(self):
        for mark in MARKS:
            with self.subTest(mark):
                self.assertEqual(depth(("call", mark, mark)), 2)

    def test_it_is_of_the_deepest_part(self):
        deepest_first_and_last = (
            (("does", "+", DEEP3, DEEP1), ("does", "+", DEEP1, DEEP3)),
            (("call", DEEP3, DEEP2), ("call", DEEP2, DEEP3)),
            (("first", DEEP3, DEEP1), ("first", DEEP1, DEEP3)),
            (("shape", "Cons", (DEEP3, DEEP2)), ("shape", "Pair", (DEEP1, DEEP3))),
            (let(("x", DEEP3), DEEP1), let(("x", DEEP1), DEEP3)),
            (listing(DEEP3, DEEP1, DEEP2), listing(DEEP1, DEEP2, DEEP3)),
            (listing(DEEP1, DEEP3, DEEP2), ("choose", DEEP1, (("Pair", ("a", "b"), DEEP3),))),
        )
        for one, other in deepest_first_and_last:
            with self.subTest(one):
                self.assertEqual(depth(one), 4)
                self.assertEqual(depth(other), 4)

    def test_fun(self):
        self.assertEqual([depth(DEEP1), depth(DEEP2), depth(DEEP3)], [1, 2, 3])

    def test_let_of_five_names(self):
        for deep in range(5):
            with self.subTest(deep):
                pairs = [(name, DEEP3 if place == deep else DEEP1) for place, name in enumerate("abcde")]
                self.assertEqual(depth(let(*pairs, ONE)), 4)

    def test_rows_with_no_step(self):
        self.assertEqual(depth(rows(DEEP1)), 2)
        self.assertEqual(depth(rows(DEEP3)), 4)

    def test_rows_count_their_steps(self):
        self.assertEqual(depth(rows(DEEP1, ("in", "x", DEEP1))), 3)
        self.assertEqual(depth(rows(DEEP1, ("when", DEEP1))), 3)
        self.assertEqual(depth(rows(DEEP1, ("be", "x", DEEP1))), 3)
        self.assertEqual(depth(rows(DEEP3, ("in", "x", DEEP1), ("when", DEEP2), ("be", "y", DEEP1))), 7)
        self.assertEqual(depth(rows(DEEP1, ("in", "x", DEEP1), ("when", DEEP3), ("be", "y", DEEP1))), 7)

    def test_rows_within_rows(self):
        inner = rows(ONE, ("when", X), ("when", Y))
        self.assertEqual(depth(inner), 4)
        self.assertEqual(depth(rows(X, ("in", "x", inner))), 6)
        self.assertEqual(depth(("fun", "x", rows(inner))), 6)


class Free(unittest.TestCase):

    def check(self, term, *expected):
        given = free(term)
        self.assertIsInstance(given, list)
        self.assertEqual(given, list(expected))

    def test_those_that_stand(self):
        self.check(X, "x")
        self.check(ONE)
        self.check(NIL)
        self.check(("call", X, Y), "x", "y")
        self.check(("shape", "Cons", (X, NIL)), "x")
        self.check(("first", X, Y), "x", "y")

    def test_sorted_and_each_once(self):
        term = ("does", "+", ("call", Z, X), ("shape", "Pair", (Y, ("call", X, Z))))
        self.check(term, "x", "y", "z")
        names = ("b", "a10", "a2", "a", "ab", "zz", "z")
        term = NIL
        for name in names:
            term = ("shape", "Cons", (("name", name), term))
        self.check(term, "a", "a10", "a2", "ab", "b", "z", "zz")

    def test_the_word_of_a_stop(self):
        self.check(("stop", "x"))
        self.check(("call", ("stop", "x"), Y), "y")
        self.check(("call", ("stop", "x"), X), "x")

    def test_marks(self):
        for mark in MARKS:
            with self.subTest(mark):
                self.check(mark)
                self.check(("call", mark, X), "x")
                self.check(let(("x", mark), ("call", X, Y)), "y")

    def test_fun(self):
        self.check(("fun", "x", X))
        self.check(("fun", "x", ("call", X, Y)), "y")
        self.check(("fun", "x", ("fun", "y", ("call", X, Y))))

    def test_bound_and_free_by_a_fun(self):
        self.check(("call", ("fun", "x", X), X), "x")
        self.check(("call", X, ("fun", "x", X)), "x")
        self.check(("call", ("fun", "x", ("fun", "x", X)), Y), "y")
        self.check(("fun", "y", ("call", ("fun", "x", Y), X)), "x")

    def test_a_let_binds_in_its_body_and_all_its_terms(self):
        self.check(let(("x", X), X))
        self.check(let(("x", Y), ("y", X), ("call", X, Y)))
        self.check(let(("x", ("call", X, ("call", Y, Z))), ("y", ("call", X, Y)), Y), "z")

    def test_each_of_five_names_is_bound_in_each_term(self):
        for name in "abcde":
            for other in "abcde":
                with self.subTest(name=name, other=other):
                    pairs = [(own, ("name", name) if own == other else Z) for own in "abcde"]
                    self.check(let(*pairs, ("name", name)), "z")

    def test_bound_and_free_by_a_let(self):
        self.check(("call", let(("x", ONE), X), X), "x")
        self.check(("call", let(("x", X), ONE), X), "x")
        self.check(("call", X, let(("y", X), ("x", Y), ONE)), "x")

    def test_an_alternative_binds_in_its_own_body_alone(self):
        self.check(listing(Z, ONE, ("call", X, Y)), "z")
        self.check(listing(X, ONE, X), "x")
        self.check(listing(Z, Y, Y), "y", "z")
        self.check(listing(Z, ("fun", "x", X), X), "z")
        self.check(("choose", Z, (("Pair", ("x", "y"), ("call", X, Y)),)), "z")
        self.check(("choose", Y, (("Pair", ("x", "y"), ("call", X, Y)),)), "y")
        self.check(("choose", X, (("No", (), Y), ("Yes", (), Z))), "x", "y", "z")

    def test_a_step_binds_in_the_steps_behind_it_and_the_term(self):
        for word in ("in", "be"):
            with self.subTest(word):
                self.check(rows(X, (word, "x", NIL)))
                self.check(rows(ONE, (word, "x", NIL), ("when", X)))
                self.check(rows(ONE, (word, "x", NIL), ("in", "y", X), ("be", "z", ("call", X, Y))))

    def test_a_step_does_not_bind_in_its_own_term(self):
        for word in ("in", "be"):
            with self.subTest(word):
                self.check(rows(X, (word, "x", X)), "x")
                self.check(rows(ONE, (word, "x", NIL), (word, "x", X)))

    def test_a_step_does_not_bind_in_steps_ahead_of_it(self):
        for word in ("in", "be"):
            with self.subTest(word):
                self.check(rows(X, ("when", X), (word, "x", NIL)), "x")
                self.check(rows(ONE, ("in", "y", X), (word, "x", Y)), "x")

    def test_rows_bind_nothing_beyond_them(self):
        self.check(("call", rows(X, ("in", "x", NIL)), X), "x")
        self.check(rows(X, ("in", "y", rows(X, ("in", "x", NIL)))), "x")

    def test_when_and_rows_without_steps_bind_nothing(self):
        self.check(rows(X), "x")
        self.check(rows(X, ("when", Y)), "x", "y")

    def test_the_list_is_the_askers_own(self):
        for term in (ONE, ("call", X, Y)):
            with self.subTest(term):
                given = free(term)
                before = list(given)
                given.append("gone")
                given.reverse()
                self.assertEqual(free(term), before)


class Bounds(unittest.TestCase):

    def test_depth_twenty_four(self):
        self.assertEqual(depth(chain(24)), 24)
        self.assertEqual(free(chain(24)), [])

    def test_deeper_terms_such_as_the_program_makes(self):
        self.assertEqual(depth(chain(200)), 200)
        self.assertEqual(free(("call", chain(200), X)), ["x"])

    def test_four_hundred_parts(self):
        layer = [("name", "n" + str(place % 40)) for place in range(200)]
        while len(layer) > 1:
            paired = [("call", layer[k], layer[k + 1]) for k in range(0, len(layer) - 1, 2)]
            layer = paired + layer[len(paired) * 2:]
        self.assertEqual(depth(layer[0]), 9)
        self.assertEqual(free(layer[0]), sorted("n" + str(k) for k in range(40)))
        self.assertEqual(len(parts(layer[0])), 2)

    def test_the_greatest_number(self):
        self.assertEqual(depth(("number", 10 ** 18 - 1)), 1)

    def test_lets_of_five_names_at_every_level(self):
        term = X
        for level in range(23):
            term = let(*[(name + str(level), ("name", name + "0")) for name in "abcde"], term)
        self.assertEqual(depth(term), 24)
        self.assertEqual(free(term), ["a0", "b0", "c0", "d0", "e0", "x"])


if __name__ == "__main__":
    unittest.main()
