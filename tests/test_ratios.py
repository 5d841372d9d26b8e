"""Point 4: ratios."""

import unittest
from fractions import Fraction
from math import ceil, floor

from slidecut.errors import NoRatio
from slidecut.ratios import (
    against, least_root, least_whole, minus, most_whole, over, plus, ranks, ratio, times, under, unsigned,
)
from tests.helpers import MOST, KindCase, numbers, some_whole, some_whole_but_0, written

# The greatest two numbers of thirty figures have none above 1 in common.
NEAR_1 = (MOST - 1, MOST)
SOME = (
    (0, 1), (1, 1), (-1, 1), (2, 1), (1, 2), (-1, 2), (1, 3), (-2, 3), (5, 6), (-7, 10),
    (MOST, 1), (-MOST, 1), (1, MOST), (-1, MOST), NEAR_1, (MOST, MOST - 1), (1 - MOST, MOST),
)


def some_ratio(rng):
    """A ratio that the tests make by themselves, as a tuple."""
    return written(Fraction(some_whole(rng), some_whole_but_0(rng)))


class Made(KindCase):
    def test_small_ones_of_either_sign(self):
        for top in range(-12, 13):
            for bottom in range(-12, 13):
                if bottom:
                    with self.subTest(top=top, bottom=bottom):
                        self.assertRatioIs(ratio(top, bottom), Fraction(top, bottom))

    def test_told_ones(self):
        for top, bottom, due in (
            (6, 4, (3, 2)), (-6, 4, (-3, 2)), (6, -4, (-3, 2)), (-6, -4, (3, 2)),
            (7, 1, (7, 1)), (7, -1, (-7, 1)), (3, 7, (3, 7)), (4, 2, (2, 1)), (5, 5, (1, 1)),
        ):
            with self.subTest(top=top, bottom=bottom):
                self.assertSame(ratio(top, bottom), due)

    def test_top_0(self):
        for bottom in (1, -1, 2, -12, MOST, -MOST):
            with self.subTest(bottom):
                self.assertSame(ratio(0, bottom), (0, 1))

    def test_thirty_figures_with_none_in_common(self):
        self.assertSame(ratio(MOST, MOST - 1), (MOST, MOST - 1))
        self.assertSame(ratio(MOST, 1 - MOST), (-MOST, MOST - 1))
        self.assertSame(ratio(-MOST, 1 - MOST), (MOST, MOST - 1))
        self.assertSame(ratio(1, -MOST), (-1, MOST))

    def test_thirty_figures_with_a_great_number_in_common(self):
        great = 10 ** 28 + 7
        self.assertSame(ratio(6 * great, -4 * great), (-3, 2))
        self.assertSame(ratio(97 * great, 89 * great), (97, 89))
        self.assertSame(ratio(MOST, -MOST), (-1, 1))
        self.assertSame(ratio(3, 3 * great), (1, great))

    def test_many(self):
        for rng in numbers(400, "made"):
            top, bottom = some_whole(rng), some_whole_but_0(rng)
            part = rng.randint(1, 10 ** 15)
            with self.subTest(top=top, bottom=bottom, part=part):
                self.assertRatioIs(ratio(top, bottom), Fraction(top, bottom))
                self.assertRatioIs(ratio(top * part, -bottom * part), Fraction(-top, bottom))

    def test_bottom_0_is_refused(self):
        for top in (0, 1, -1, 6, MOST, -MOST):
            with self.subTest(top), self.assertRaises(NoRatio):
                ratio(top, 0)


class Reckoned(KindCase):
    def check(self, one, other):
        """Each of the four, against Python's own fractions."""
        left, right = Fraction(*one), Fraction(*other)
        with self.subTest(one=one, other=other):
            self.assertRatioIs(plus(one, other), left + right)
            self.assertRatioIs(minus(one, other), left - right)
            self.assertRatioIs(times(one, other), left * right)
            if right:
                self.assertRatioIs(over(one, other), left / right)

    def test_told_ones(self):
        self.assertSame(plus((1, 2), (1, 3)), (5, 6))
        self.assertSame(plus((1, 6), (1, 3)), (1, 2))
        self.assertSame(minus((1, 2), (1, 3)), (1, 6))
        self.assertSame(minus((1, 3), (1, 2)), (-1, 6))
        self.assertSame(times((2, 3), (-3, 4)), (-1, 2))
        self.assertSame(over((2, 3), (4, 9)), (3, 2))

    def test_all_pairs(self):
        for one in SOME:
            for other in SOME:
                self.check(one, other)

    def test_many(self):
        for rng in numbers(400, "reckoned"):
            self.check(some_ratio(rng), some_ratio(rng))

    def test_result_0(self):
        for one in SOME:
            with self.subTest(one):
                self.assertSame(minus(one, one), (0, 1))
                self.assertSame(plus(one, (-one[0], one[1])), (0, 1))
                self.assertSame(times(one, (0, 1)), (0, 1))
                self.assertSame(times((0, 1), one), (0, 1))
                if one[0]:
                    self.assertSame(over((0, 1), one), (0, 1))

    def test_what_is_added_is_taken_away_again(self):
        for one in SOME:
            for other in SOME:
                with self.subTest(one=one, other=other):
                    self.assertSame(minus(plus(one, other), other), one)
                    self.assertSame(plus(minus(one, other), other), one)

    def test_over_below_0(self):
        self.assertSame(over((1, 2), (-3, 4)), (-2, 3))
        self.assertSame(over((-1, 2), (-3, 4)), (2, 3))
        self.assertSame(over((1, 1), (-1, 1)), (-1, 1))
        self.assertSame(over((1, 1), (-MOST, 1)), (-1, MOST))
        self.assertSame(over((0, 1), (-5, 7)), (0, 1))

    def test_over_0_is_refused(self):
        for one in SOME:
            with self.subTest(one), self.assertRaises(NoRatio):
                over(one, (0, 1))

    def test_told_ones_are_handed_in_again(self):
        # What is told has more than thirty figures here, and is still reckoned exactly.
        one = due = NEAR_1
        for other in ((1, MOST - 2), (1 - MOST, MOST - 4), (7, MOST - 6)):
            due = written(Fraction(*due) * 3 + Fraction(*other))
            one = plus(times(one, (3, 1)), other)
            self.assertSame(one, due)
        self.assertGreater(one[1], 10 ** 90)


class Under(KindCase):
    def check(self, one, other):
        with self.subTest(one=one, other=other):
            self.assertIs(under(one, other), Fraction(*one) < Fraction(*other))

    def test_told_ones(self):
        self.assertIs(under((1, 3), (1, 2)), True)
        self.assertIs(under((1, 2), (1, 3)), False)
        self.assertIs(under((-1, 2), (-1, 3)), True)
        self.assertIs(under((-1, 3), (-1, 2)), False)

    def test_equal_ones(self):
        for one in SOME:
            with self.subTest(one):
                self.assertIs(under(one, one), False)

    def test_across_0(self):
        for below, above in (((-1, MOST), (0, 1)), ((0, 1), (1, MOST)), ((-1, MOST), (1, MOST)), ((-5, 1), (1, 5))):
            with self.subTest(below=below, above=above):
                self.assertIs(under(below, above), True)
                self.assertIs(under(above, below), False)

    def test_very_near_ones(self):
        # The two differ by 1 over a number of sixty figures.
        less, more = (MOST - 2, MOST - 1), (MOST - 1, MOST)
        self.assertIs(under(less, more), True)
        self.assertIs(under(more, less), False)
        self.assertIs(under((2 - MOST, MOST - 1), (1 - MOST, MOST)), False)
        self.assertIs(under((1 - MOST, MOST), (2 - MOST, MOST - 1)), True)
        self.assertIs(under(more, (1, 1)), True)
        self.assertIs(under((1, 1), more), False)

    def test_all_pairs_and_many(self):
        for one in SOME:
            for other in SOME:
                self.check(one, other)
        for rng in numbers(400, "under"):
            self.check(some_ratio(rng), some_ratio(rng))


class Helped(KindCase):
    """What other modules reckon with."""

    def test_signs(self):
        for one in SOME:
            self.assertSame(against(one), written(-Fraction(*one)))
            self.assertSame(unsigned(one), written(abs(Fraction(*one))))

    def test_whole_numbers(self):
        for one in SOME:
            value = Fraction(*one)
            self.assertSame(least_whole(one), ceil(value))
            self.assertSame(most_whole(one), floor(value))
        for value in [Fraction(k, 7) for k in range(1, 200)]:
            root = least_root(written(value))
            self.assertTrue((root - 1) ** 2 < value <= root ** 2)

    def test_ranks(self):
        self.assertSame(ranks([]), [])
        for rng in numbers(60, "ranks"):
            some = [some_ratio(rng) for k in range(rng.randint(1, 9))] + [rng.choice(SOME), (1, 2), (1, 3)]
            some += [(MOST - 2, MOST - 1), (MOST - 1, MOST), (1, MOST), (1, MOST - 1)] + some[:2]
            told = ranks(some)
            for one, rank in zip(some, told):
                for other, other_rank in zip(some, told):
                    self.assertEqual(rank < other_rank, Fraction(*one) < Fraction(*other))
                    self.assertEqual(rank == other_rank, one == other)


if __name__ == "__main__":
    unittest.main()
