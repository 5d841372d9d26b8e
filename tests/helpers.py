"""What several tests need: kinds told apart, and numbers of many sizes."""

import random
import unittest
from copy import deepcopy
from fractions import Fraction
from math import gcd

MOST = 10 ** 30 - 1


def is_whole(value):
    """Whether this is a whole number; True and False are none."""
    return type(value) is int


def some_whole(rng):
    """A whole number of one to thirty figures, of either sign, at times 0."""
    if rng.randrange(8) == 0:
        return 0
    most = 10 ** rng.choice((1, 1, 2, 5, 15, 30)) - 1
    return rng.randint(-most, most)


def some_whole_but_0(rng):
    """A whole number as some_whole tells them, but not 0."""
    return some_whole(rng) or rng.choice((-1, 1))


def numbers(many, seed):
    """As many sources of numbers, the same ones at each run."""
    return [random.Random(f"{seed} {k}") for k in range(many)]


def written(value):
    """The ratio, as a tuple, of a Fraction."""
    return (value.numerator, value.denominator)


def placed(x, y):
    """The point, as a tuple, of two Fractions."""
    n = x.denominator * y.denominator // gcd(x.denominator, y.denominator)
    return (int(x * n), int(y * n), n)


def flat(p):
    """How far a point lies to the right and up, as Fractions."""
    return (Fraction(p[0], p[2]), Fraction(p[1], p[2]))


def some_point(rng):
    """A point of places of one to thirty figures over such bottoms."""
    return placed(Fraction(some_whole(rng), some_whole_but_0(rng)), Fraction(some_whole(rng), some_whole_but_0(rng)))


def spoil(value):
    """Every list in this is overwritten, those within lists and tuples too."""
    if isinstance(value, (list, tuple)):
        for inner in value:
            spoil(inner)
    if isinstance(value, list):
        value[:] = ["spoilt"]


class KindCase(unittest.TestCase):
    """A test case in which True is not 1, and a list is no tuple."""

    def assertSame(self, told, due):
        self.assertIs(type(told), type(due), (told, due))
        if type(due) in (tuple, list):
            self.assertEqual(len(told), len(due), (told, due))
            for one, other in zip(told, due):
                self.assertSame(one, other)
        else:
            self.assertEqual(told, due)

    def asked(self, deed, *handed):
        """What a deed tells of these, of which it changes nothing; told lists are new, and kept by nobody."""
        ahead = deepcopy(handed)
        told = deed(*handed)
        self.assertSame(handed, ahead)
        kept = deepcopy(told)
        spoil(told)
        self.assertSame(handed, ahead)
        again = deed(*handed)
        self.assertSame(again, kept)
        handed = deepcopy(handed)
        told = deed(*handed)
        spoil(handed)
        self.assertSame(told, kept)
        return kept

    def assertLowest(self, told, many):
        """That these are so many whole numbers in lowest form, the last from 1 on."""
        self.assertIs(type(told), tuple, told)
        self.assertEqual(len(told), many, told)
        self.assertTrue(all(is_whole(k) for k in told), told)
        self.assertGreaterEqual(told[-1], 1, told)
        self.assertEqual(gcd(*told), 1, told)

    def assertRatio(self, told):
        self.assertLowest(told, 2)

    def assertPoint(self, told):
        self.assertLowest(told, 3)

    def assertRatioIs(self, told, due):
        """That this is the ratio of a Fraction."""
        self.assertRatio(told)
        self.assertSame(told, written(due))

    def assertPointIs(self, told, x, y):
        """That this is the point of two Fractions."""
        self.assertPoint(told)
        self.assertSame(told, placed(Fraction(x), Fraction(y)))
