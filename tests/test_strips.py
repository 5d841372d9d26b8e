"""Points 14 and 15: the rings of boxes and corner pieces, and slabs striped."""

import unittest
from fractions import Fraction

from slidecut.slabs import slab_ring, slabs
from slidecut.strips import box_ring, corner_ring, striped
from tests.helpers import MOST, flat, numbers, written
from tests.laying import SheetCase, firsts_in, pieces_of, plain_parts, some_size
from tests.shapes import (
    CLOTHS, corner, led, plain_area, plain_corner, ring_of, some_cloth, tilted_by, turn, turned_round,
)


def slab_of(*pairs):
    """The slab of four pairs of numbers."""
    return tuple(ring_of(*pairs))


def leaning(wide, low, high, left, x=0, y=0):
    """The slab of a width, of the slopes of its sides, and of its height at the left end."""
    return slab_of((x, y), (x + wide, y + low * wide), (x + wide, y + left + high * wide), (x, y + left))


def thin_at_right(wide, low, high, right, x=0, y=0):
    """The slab of a width, of the slopes of its sides, and of its height at the right end."""
    return leaning(wide, low, high, right + (low - high) * wide, x, y)


def turned_over(slab):
    """The slab turned half round."""
    low_left, low_right, high_right, high_left = turned_round([list(slab)])[0]
    return (high_right, high_left, low_left, low_right)


def mirrored(slab):
    """The slab as it is seen in a level mirror."""
    low_left, low_right, high_right, high_left = led([list(slab)], lambda x, y: (x, -y))[0]
    return (high_left, high_right, low_right, low_left)


def slopes_of(slab):
    """The slopes of the low and the high side."""
    low_left, low_right, high_right, high_left = (flat(p) for p in slab)
    wide = low_right[0] - low_left[0]
    return ((low_right[1] - low_left[1]) / wide, (high_right[1] - high_left[1]) / wide, wide)


class BoxRing(SheetCase):
    def test_told_ones(self):
        self.assertSame(box_ring((3, 1), (1, 2)), [(0, 0, 1), (3, 0, 1), (6, 1, 2), (0, 1, 2)])
        self.assertSame(self.asked(box_ring, (1, 1), (1, 1)), [(0, 0, 1), (1, 0, 1), (1, 1, 1), (0, 1, 1)])

    def test_many(self):
        for rng in numbers(60, "box rings"):
            wide, high = some_size(rng, 12), some_size(rng, rng.choice((1, 12, 30)))
            with self.subTest(wide=wide, high=high):
                told = self.asked(box_ring, written(wide), written(high))
                self.assertSame(told, ring_of((0, 0), (wide, 0), (wide, high), (0, high)))


class CornerRing(SheetCase):
    def test_told_ones(self):
        for slope, hand, wide, due in (
            ((1, 2), "low", (4, 1), ring_of((0, 0), (4, 0), (4, 2))),
            ((1, 2), "high", (4, 1), ring_of((0, 0), (4, 2), (0, 2))),
            ((-1, 2), "low", (4, 1), ring_of((0, 0), (4, 0), (0, 2))),
            ((-1, 2), "high", (4, 1), ring_of((0, 2), (4, 0), (4, 2))),
            ((3, 1), "low", (1, 3), ring_of((0, 0), (Fraction(1, 3), 0), (Fraction(1, 3), 1))),
            ((-7, 1), "high", (1, 1), ring_of((0, 7), (1, 0), (1, 7))),
        ):
            with self.subTest(slope=slope, hand=hand, wide=wide):
                self.assertSame(self.asked(corner_ring, slope, hand, wide), due)

    def check(self, slope, hand, wide):
        with self.subTest(slope=slope, hand=hand, wide=wide):
            told = self.asked(corner_ring, written(slope), hand, written(wide))
            self.assertEqual(len(told), 3)
            self.assertBulge(told)
            spots = [flat(p) for p in told]
            self.assertEqual(spots[0], min(spots))
            self.assertEqual(plain_area([told]), wide * wide * abs(slope) / 2)
            high = wide * abs(slope)
            self.assertLessEqual(set(spots), {(0, 0), (wide, 0), (wide, high), (0, high)})
            # Two of its corners are the ends of the line, the third lies below or above it.
            base = 0 if slope > 0 else high
            off = [y - base - x * slope for x, y in spots]
            self.assertEqual(sum(one == 0 for one in off), 2)
            self.assertTrue(min(off) < 0 if hand == "low" else max(off) > 0)
            self.assertSame(told, plain_corner(slope, hand, wide))

    def test_many(self):
        for rng in numbers(60, "corner rings"):
            slope = some_size(rng, rng.choice((1, 12))) * rng.choice((1, -1))
            wide = some_size(rng, rng.choice((1, 12)))
            for hand in ("low", "high"):
                self.check(slope, hand, wide)

    def test_low_and_high_make_the_box(self):
        for rng in numbers(20, "corners of boxes"):
            slope, wide = some_size(rng, 12) * rng.choice((1, -1)), some_size(rng, 12)
            low, high = (corner_ring(written(slope), hand, written(wide)) for hand in ("low", "high"))
            due = box_ring(written(wide), written(wide * abs(slope)))
            self.assertTrue(plain_parts([low, high], [due]))


class Striped(SheetCase):
    def check(self, slab):
        with self.subTest(slab):
            told = self.asked(striped, slab)
            self.assertIs(type(told), tuple)
            corners, boxes = told
            self.assertIs(type(corners), list)
            self.assertIs(type(boxes), list)
            low, high, wide = slopes_of(slab)
            sums = {low: Fraction(0), high: Fraction(0)}
            pieces = []
            for slope, hand, width, sheet in corners:
                self.assertRatio(slope)
                self.assertNotEqual(slope[0], 0)
                self.assertIn(hand, ("low", "high"))
                self.assertCorner(Fraction(*slope), hand, width, sheet)
                self.assertIn(Fraction(*slope), (low, high))
                sums[Fraction(*slope)] += Fraction(*width) * (1 if hand == "low" else -1)
                pieces.extend(sheet)
            self.assertBoxes(boxes)
            pieces.extend(pieces_of(boxes))
            self.check_sums(sums, low, high, wide)
            self.assertEqual(firsts_in(pieces, True), [])
            firsts = firsts_in(pieces, False)
            self.assertEqual(plain_area(firsts), plain_area([slab_ring(slab)]))
            self.assertTrue(plain_parts(firsts, [slab_ring(slab)]))
            if len(firsts) < 30:
                self.assertEachAlone(firsts, slab_ring(slab))

    def check_sums(self, sums, low, high, wide):
        due = {low: Fraction(0), high: Fraction(0)}
        due[high] += wide
        due[low] -= wide
        for slope in (low, high):
            if slope != 0:
                self.assertEqual(sums[slope], due[slope])

    def check_each_way(self, slab):
        for one in (slab, mirrored(slab)):
            self.check(one)
            self.check(turned_over(one))

    def test_kinds(self):
        told = striped(leaning(4, -1, Fraction(1, 2), 3))
        self.assertSame(told[1], [((4, 1), (3, 1), [(ring_of((0, 0), (4, 0), (4, 3), (0, 3)), False, (0, 0, 1))])])
        self.assertEqual(sorted(one[:3] for one in told[0]), [((-1, 1), "high", (4, 1)), ((1, 2), "low", (4, 1))])

    def test_a_box(self):
        corners, boxes = striped(leaning(4, 0, 0, 3, 5, 7))
        self.assertEqual(corners, [])
        self.check(leaning(4, 0, 0, 3, 5, 7))

    def test_a_level_side(self):
        for slope in (1, -1, Fraction(3, 7), Fraction(-9, 2)):
            for end in (0, 1, Fraction(5, 3)):
                if slope > 0:
                    self.check_each_way(leaning(3, 0, slope, end, -2, 1))
                else:
                    self.check_each_way(thin_at_right(3, 0, slope, end, -2, 1))

    def test_one_side_up_and_one_down(self):
        for low, high in ((-1, 1), (-2, Fraction(1, 3)), (Fraction(-1, 7), 5)):
            for end in (0, 2, Fraction(1, 9)):
                self.check_each_way(leaning(Fraction(5, 2), low, high, end, 4, -3))
                self.check_each_way(thin_at_right(Fraction(5, 2), high, low, end, -4, 3))

    def test_both_up_and_both_down(self):
        for low, high in ((1, 2), (1, Fraction(5, 4)), (Fraction(1, 3), 4), (3, Fraction(13, 4)), (6, 7)):
            for end in (0, Fraction(1, 100), Fraction(1, 3), 2, 50):
                self.check_each_way(leaning(3, low, high, end, 1, Fraction(1, 7)))
                self.check_each_way(thin_at_right(3, high, low, end, -9, Fraction(-1, 7)))

    def test_both_of_one_slope(self):
        for slope in (1, 5, Fraction(1, 9), Fraction(22, 7)):
            for end in (Fraction(1, 20), Fraction(1, 3), 1, 2, 30):
                self.check_each_way(leaning(2, slope, slope, end, 3, 3))

    def test_many_strips(self):
        self.check_each_way(leaning(1, 20, 21, 0))
        self.check_each_way(leaning(3, Fraction(39, 2), Fraction(41, 2), 0, 2, -5))
        self.check(leaning(3, 10, 11, Fraction(1, 1000)))
        self.check(leaning(1, 40, Fraction(401, 10), 1))
        self.check(thin_at_right(1, -40, Fraction(-401, 10), 1))

    def test_just_enough_and_just_not(self):
        # The boxes of one strip are enough from an end on that is as high as the flat side's rise.
        for end in (Fraction(299, 100), 3, Fraction(301, 100), Fraction(5, 4), Fraction(4, 5), Fraction(6, 5)):
            self.check(leaning(3, 1, 2, end))
            self.check(thin_at_right(3, 2, 1, end))
            self.check(leaning(1, end, end, end))

    def test_an_end_all_but_without_a_height(self):
        self.check_each_way(leaning(1, 2, 3, Fraction(1, 10 ** 12)))
        self.check(leaning(1, 2, Fraction(9, 4), Fraction(1, MOST)))

    def test_over_bottoms(self):
        for rng in numbers(20, "slabs over bottoms"):
            wide, low, end = (some_size(rng, 3) for k in range(3))
            high = low * Fraction(rng.randint(13, 90), 10)
            x, y = (some_size(rng, 12) * rng.choice((1, -1)) for k in range(2))
            self.check(leaning(wide, low, high, end * wide * low, x, y))
            self.check(mirrored(thin_at_right(wide, high, low, end * wide * low, x, y)))

    def test_twelve_figures(self):
        for rng in numbers(8, "great slabs"):
            wide, low = some_size(rng, 12), some_size(rng, 12)
            high = low * Fraction(rng.randint(13 * 10 ** 11, 90 * 10 ** 11), 10 ** 12 - 1)
            self.check(leaning(wide, low, high, rng.choice((0, wide * low / 7)), some_size(rng, 12), 0))

    def test_slabs_of_cloths(self):
        for name in sorted(CLOTHS):
            for slab in slabs(CLOTHS[name]):
                self.check(slab)
        for cloth in (CLOTHS["island"], CLOTHS["arrow"], CLOTHS["two holes"]):
            for slab in slabs(tilted_by(cloth, Fraction(7, 3))):
                self.check(slab)

    def test_slabs_of_some_cloths(self):
        for rng in numbers(4, "striped cloths"):
            for slab in slabs(some_cloth(rng)):
                self.check(slab)


class Tests(SheetCase):
    """That the checks above see what is wrong."""

    def test_gaps_and_folds(self):
        ring = ring_of((0, 0), (2, 0), (2, 1), (0, 1))
        halves = [ring_of((0, 0), (1, 0), (1, 1), (0, 1)), ring_of((1, 0), (2, 0), (2, 1), (1, 1))]
        self.assertTrue(plain_parts(halves, [ring]))
        self.assertFalse(plain_parts(halves[:1], [ring]))
        self.assertFalse(plain_parts(halves[:1] * 2, [ring]))
        self.assertFalse(plain_parts(halves + halves[:1], [ring]))
        self.assertEqual(turn((1, 0), (0, 1)), -1)
        with self.assertRaises(AssertionError):
            self.assertBulge(ring_of((0, 0), (1, 0), (2, 0), (2, 1)))
        with self.assertRaises(AssertionError):
            self.assertBulge([corner(0, 0), corner(0, 1), corner(1, 0)])


if __name__ == "__main__":
    unittest.main()
