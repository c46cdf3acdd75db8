"""Points 6, 8 and 10: how kinds are shown, and how many parts they have."""

import unittest

from idlegraph.kinds import show_kind, size

NUM = ("num",)
TRUTH = ("truth",)
ANY0 = ("open", 0)
ANY1 = ("open", 1)


def nested(levels):
    kind = NUM
    for level in range(levels - 1):
        kind = ("list", kind)
    return kind


def doubled(levels):
    kind = TRUTH
    for level in range(levels - 1):
        kind = ("pair", kind, kind)
    return kind


class Shown(unittest.TestCase):

    def check(self, kind, text):
        with self.subTest(text):
            given = show_kind(kind)
            self.assertIsInstance(given, str)
            self.assertEqual(given, text)

    def test_those_without_kinds_within(self):
        self.check(NUM, "num")
        self.check(TRUTH, "truth")

    def test_open_ones(self):
        self.check(ANY0, "any0")
        self.check(ANY1, "any1")
        self.check(("open", 10), "any10")
        self.check(("open", 399), "any399")

    def test_list(self):
        self.check(("list", NUM), "(list num)")
        self.check(("list", ANY0), "(list any0)")
        self.check(("list", ("list", TRUTH)), "(list (list truth))")

    def test_pair(self):
        self.check(("pair", NUM, TRUTH), "(pair num truth)")
        self.check(("pair", ANY1, ANY0), "(pair any1 any0)")
        self.check(("pair", ("pair", NUM, ANY0), ("list", TRUTH)), "(pair (pair num any0) (list truth))")

    def test_to(self):
        self.check(("to", NUM, TRUTH), "(to num truth)")
        self.check(("to", ANY0, ("to", ANY1, ANY0)), "(to any0 (to any1 any0))")
        self.check(("to", ("to", ANY0, ANY1), ("to", ANY0, ANY1)), "(to (to any0 any1) (to any0 any1))")

    def test_each_within_each(self):
        self.check(("list", ("pair", ("to", NUM, ("list", ANY0)), ("pair", TRUTH, ("open", 12)))),
                   "(list (pair (to num (list any0)) (pair truth any12)))")
        self.check(("to", ("list", ("to", ANY0, ANY1)), ("pair", ("list", NUM), ANY1)),
                   "(to (list (to any0 any1)) (pair (list num) any1))")

    def test_sixty_deep(self):
        self.check(nested(60), "(list " * 59 + "num" + ")" * 59)

    def test_some_thousand_parts(self):
        text = show_kind(doubled(12))
        self.assertEqual(text.count("truth"), 2048)
        self.assertEqual(text.count("(pair "), 2047)
        self.assertEqual(text.count(")"), 2047)


class Sizes(unittest.TestCase):

    def check(self, kind, many):
        with self.subTest(kind):
            given = size(kind)
            self.assertIs(type(given), int)
            self.assertEqual(given, many)

    def test_those_without_kinds_within(self):
        self.check(NUM, 1)
        self.check(TRUTH, 1)

    def test_the_number_of_an_open_one_is_no_part(self):
        self.check(ANY0, 1)
        self.check(("open", 7), 1)
        self.check(("list", ("open", 7)), 2)

    def test_itself_with_all_within(self):
        self.check(("list", NUM), 2)
        self.check(("pair", NUM, TRUTH), 3)
        self.check(("to", NUM, TRUTH), 3)

    def test_nested(self):
        self.check(("list", ("list", ("list", ANY0))), 4)
        self.check(("pair", ("list", NUM), ("to", ANY0, ("list", TRUTH))), 7)
        self.check(("to", ("to", ANY0, ANY1), ("to", ANY0, ANY1)), 7)

    def test_like_ones_are_all_counted(self):
        same = ("list", NUM)
        self.check(("pair", same, same), 5)

    def test_sixty_deep(self):
        self.check(nested(60), 60)

    def test_some_thousand_parts(self):
        self.check(doubled(12), 4095)


if __name__ == "__main__":
    unittest.main()
