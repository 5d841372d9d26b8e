"""Point 2, and the interface's rows of slidecut/errors.py: the refusals."""

import unittest

from slidecut import errors
from slidecut.errors import CutError, NoName, NoPlan

PLAIN = ("NoRatio", "NoPoint", "NoCloth", "NoText", "NoRow", "NoMove")
OTHERS = PLAIN + ("NoPlan", "NoName")


def made(name):
    """An error of this name, made as the program makes it."""
    if name in ("NoPlan", "NoName"):
        return getattr(errors, name)("abc")
    return getattr(errors, name)("some words")


class Refusals(unittest.TestCase):
    def test_base_is_straight_under_value_error(self):
        self.assertEqual(CutError.__bases__, (ValueError,))

    def test_others_are_straight_under_base(self):
        for name in OTHERS:
            with self.subTest(name):
                self.assertEqual(getattr(errors, name).__bases__, (CutError,))

    def test_no_class_is_another_one(self):
        self.assertEqual(len({getattr(errors, name) for name in OTHERS}), len(OTHERS))
        for name in OTHERS:
            self.assertEqual(getattr(errors, name).__name__, name)

    def test_none_takes_another(self):
        for name in OTHERS:
            for other in OTHERS:
                with self.subTest(name=name, other=other):
                    self.assertEqual(isinstance(made(name), getattr(errors, other)), name == other)

    def test_all_are_taken_by_base_and_by_value_error(self):
        for name in OTHERS:
            for base in (CutError, ValueError):
                with self.subTest(name), self.assertRaises(base):
                    raise made(name)

    def test_base_and_plain_ones_are_made_without_words_too(self):
        for name in PLAIN + ("CutError",):
            with self.subTest(name):
                self.assertIsInstance(getattr(errors, name)(), CutError)


class Fields(unittest.TestCase):
    def test_no_plan_has_why(self):
        for why in (("area", (1, 1), (2, 1)), ("mark", (1, 0), (0, 1), (-3, 2))):
            with self.subTest(why):
                self.assertEqual(NoPlan(why).why, why)
                with self.assertRaises(NoPlan) as caught:
                    raise NoPlan(why)
                self.assertEqual(caught.exception.why, why)

    def test_no_name_has_name(self):
        self.assertEqual(NoName("cloth").name, "cloth")
        with self.assertRaises(NoName) as caught:
            raise NoName("abcdefgh")
        self.assertEqual(caught.exception.name, "abcdefgh")

    def test_each_error_keeps_its_own(self):
        one, other = NoName("one"), NoName("other")
        self.assertEqual((one.name, other.name), ("one", "other"))
        first, second = NoPlan(("area", (1, 1), (2, 1))), NoPlan(("area", (3, 1), (4, 1)))
        self.assertEqual(first.why, ("area", (1, 1), (2, 1)))
        self.assertEqual(second.why, ("area", (3, 1), (4, 1)))


if __name__ == "__main__":
    unittest.main()
