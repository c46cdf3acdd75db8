"""Points 18 and 23: the states of things that are kept, and the marks that they lead to."""

import unittest

from idlegraph.nodes import Node, Ready, Underway, Waiting, marks_in

X = ("name", "x")
ONE = ("number", 1)
NIL = ("shape", "Nil", ())


def at(number):
    return ("at", number)


# Terms and values, each with the numbers of the marks in it.
ROWS = (
    (ONE, []), (X, []), (NIL, []), (("stop", "at"), []), (("name", "at"), []),
    (at(0), [0]), (at(7), [7]), (at(10 ** 6), [10 ** 6]),
    (("shut", 3), []), (("ring", 3), []),
    (("number", 3), []), (("does", "+", ("number", 4), at(3)), [3]),
    (("does", "<", at(2), at(1)), [1, 2]),
    (("fun", "x", at(5)), [5]), (("fun", "x", X), []), (("fun", "at", ("name", "at")), []),
    (("call", at(9), at(10)), [9, 10]), (("call", at(10), at(9)), [9, 10]),
    (("call", at(2), at(2)), [2]), (("call", at(4), ("call", at(1), at(4))), [1, 4]),
    (("first", at(1), at(0)), [0, 1]),
    (("let", (("x", at(6)), ("y", at(3))), at(5)), [3, 5, 6]), (("let", (("at", ONE),), ("name", "at")), []),
    (("shape", "Cons", (at(2), at(1))), [1, 2]), (("shape", "Pair", (ONE, at(1))), [1]),
    (("choose", at(3), (("Nil", (), at(2)), ("Cons", ("a", "b"), at(1)))), [1, 2, 3]),
    (("choose", X, (("No", (), ONE), ("Yes", (), at(8)))), [8]),
    (("choose", X, (("Pair", ("at", "x"), ("call", X, at(11))),)), [11]),
    (("rows", at(4), (("in", "x", at(3)), ("when", at(2)), ("be", "at", at(1)))), [1, 2, 3, 4]),
    (("made", "Nil", ()), []), (("made", "Yes", ()), []),
    (("made", "Cons", (at(2), at(1))), [1, 2]), (("made", "Pair", (at(5), at(5))), [5]),
    (("made", "Cons", (("shut", 2), at(1))), [1]), (("made", "Pair", (("ring", 2), ("shut", 1))), []),
    (("call", ("shut", 1), ("call", ("ring", 2), at(3))), [3]),
    (("fun", "x", ("let", (("y", ("fun", "z", ("call", at(12), X))),), ("first", at(2), ("does", "*", at(12), ONE)))),
     [2, 12]))


class MarksIn(unittest.TestCase):

    def test_of_terms_and_values(self):
        for term, numbers in ROWS:
            with self.subTest(term):
                given = marks_in(term)
                self.assertIs(type(given), list)
                self.assertEqual(given, numbers)

    def test_many_marks_rising_by_number(self):
        term = NIL
        for number in (30, 4, 100, 9, 4, 11, 30, 0, 2, 1):
            term = ("shape", "Cons", (at(number), term))
        self.assertEqual(marks_in(term), [0, 1, 2, 4, 9, 11, 30, 100])

    def test_deep_terms_such_as_the_program_makes(self):
        term = at(1)
        for level in range(300):
            term = ("first", at(level % 3 + 2), term)
        self.assertEqual(marks_in(term), [1, 2, 3, 4])

    def test_each_list_is_the_asker_s_own(self):
        term = ("call", at(2), at(1))
        marks_in(term).append(9)
        self.assertEqual(marks_in(term), [1, 2])
        marks_in(ONE).append(9)
        self.assertEqual(marks_in(ONE), [])


class Nodes(unittest.TestCase):

    def test_states(self):
        self.assertEqual(Node().state(), "")
        self.assertEqual(Waiting(ONE).state(), "waiting")
        self.assertEqual(Underway().state(), "under way")
        self.assertEqual(Ready(ONE).state(), "ready")

    def test_all_stand_under_node_alone(self):
        for made in (Waiting, Underway, Ready):
            with self.subTest(made):
                self.assertEqual(made.__bases__, (Node,))

    def test_no_links(self):
        self.assertEqual(Node().links(), [])
        self.assertEqual(Underway().links(), [])

    def test_links_of_text_and_value(self):
        for term, numbers in ROWS:
            with self.subTest(term):
                self.assertEqual(Waiting(term).links(), numbers)
                self.assertEqual(Ready(term).links(), numbers)

    def test_each_list_is_the_asker_s_own(self):
        for node, numbers in ((Node(), []), (Underway(), []), (Waiting(("call", at(2), at(1))), [1, 2]),
                              (Waiting(ONE), []), (Ready(("made", "Cons", (at(4), at(3)))), [3, 4]), (Ready(ONE), [])):
            with self.subTest(node.state()):
                given = node.links()
                self.assertIs(type(given), list)
                given.append(9)
                given.reverse()
                self.assertEqual(node.links(), numbers)

    def test_each_node_has_its_own(self):
        one, other = Waiting(at(1)), Waiting(at(2))
        self.assertEqual((one.links(), other.links()), ([1], [2]))
        one, other = Ready(("fun", "x", at(1))), Ready(ONE)
        self.assertEqual((one.links(), other.links()), ([1], []))


if __name__ == "__main__":
    unittest.main()
