"""The interface of idlegraph/errors.py."""

import unittest

from idlegraph import errors

PLAIN = ("NoText", "Unbound", "NoKind", "NoThing", "NoName", "NoRow")
WITH_FIELD = (("Stopped", "word", "full"), ("Ring", "names", ("a", "Cons.1")), ("Spent", "steps", 400))


def made(name, value=None):
    cls = getattr(errors, name)
    return cls("why") if value is None else cls(value)


class Classes(unittest.TestCase):

    def test_any_refusal_is_a_value_error(self):
        self.assertEqual(errors.IdleError.__bases__, (ValueError,))

    def test_each_stands_straight_under_idle_error(self):
        for name in PLAIN + tuple(row[0] for row in WITH_FIELD):
            with self.subTest(name):
                self.assertEqual(getattr(errors, name).__bases__, (errors.IdleError,))

    def test_none_is_taken_for_another(self):
        names = PLAIN + tuple(row[0] for row in WITH_FIELD)
        for one in names:
            for other in names:
                with self.subTest(one=one, other=other):
                    under = issubclass(getattr(errors, one), getattr(errors, other))
                    self.assertEqual(under, one == other)

    def test_each_is_raised_and_taken_by_its_name(self):
        for name in PLAIN:
            with self.subTest(name):
                with self.assertRaises(getattr(errors, name)):
                    raise made(name)

    def test_any_of_them_is_taken_as_idle_error(self):
        for name, field, value in WITH_FIELD:
            with self.subTest(name):
                with self.assertRaises(errors.IdleError) as caught:
                    raise made(name, value)
                self.assertEqual(getattr(caught.exception, field), value)


class Fields(unittest.TestCase):

    def test_stopped_has_its_word(self):
        self.assertEqual(errors.Stopped("full").word, "full")

    def test_ring_has_its_names(self):
        self.assertEqual(errors.Ring(("a", "b", "a")).names, ("a", "b", "a"))
        self.assertEqual(errors.Ring(()).names, ())
        self.assertIsInstance(errors.Ring(("a",)).names, tuple)

    def test_spent_has_its_steps(self):
        self.assertEqual(errors.Spent(0).steps, 0)
        self.assertEqual(errors.Spent(100000).steps, 100000)

    def test_each_object_has_its_own(self):
        one = errors.Stopped("one")
        errors.Stopped("other")
        self.assertEqual(one.word, "one")
        self.assertFalse(hasattr(errors.Stopped, "word"))
        self.assertFalse(hasattr(errors.Ring, "names"))
        self.assertFalse(hasattr(errors.Spent, "steps"))


if __name__ == "__main__":
    unittest.main()
