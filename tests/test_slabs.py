"""Point 13: slabs, their rings, and a cloth parted into slabs."""

import unittest
from fractions import Fraction

from slidecut.slabs import slab_ring, slabs
from tests.helpers import MOST, KindCase, flat, numbers, some_whole
from tests.shapes import (
    CLOTHS, back, box, corner, from_corner, plain_area, plain_sides, plain_stands, ring_of, slid_by, some_cloth, spread,
    tilted_by, turned_round, wedge,
)


def slab_of(*pairs):
    """The slab of four pairs of numbers."""
    return tuple(ring_of(*pairs))


def plain_slabs(cloth):
    """The slabs of a cloth: between two sides next to one another where the point midway is in."""
    sides = [sorted(one) for ring in cloth for one in plain_sides(ring) if one[0][0] != one[1][0]]
    places = sorted({flat(p)[0] for ring in cloth for p in ring})
    told = []
    for left, right in zip(places, places[1:]):
        spans = []
        for (x, y), (u, v) in sides:
            if x <= left and right <= u:
                low, high = (y + (v - y) * (place - x) / (u - x) for place in (left, right))
                spans.append(((low + high) / 2, low, high))
        spans.sort()
        for low, high in zip(spans, spans[1:]):
            if plain_stands(cloth, corner((left + right) / 2, (low[0] + high[0]) / 2)) == "in":
                told.append(slab_of((left, low[1]), (right, low[2]), (right, high[2]), (left, high[1])))
    return told


class SlabRing(KindCase):
    def test_told_ones(self):
        for slab, due in (
            (slab_of((0, 0), (3, 1), (3, 4), (0, 2)), ring_of((0, 0), (3, 1), (3, 4), (0, 2))),
            (slab_of((0, 0), (3, 1), (3, 1), (0, 2)), ring_of((0, 0), (3, 1), (0, 2))),
            (slab_of((0, 0), (3, 1), (3, 4), (0, 0)), ring_of((0, 0), (3, 1), (3, 4))),
            (slab_of((-2, 0), (-1, 0), (-1, 0), (-2, Fraction(1, MOST))),
             ring_of((-2, 0), (-1, 0), (-2, Fraction(1, MOST)))),
        ):
            with self.subTest(slab):
                self.assertSame(self.asked(slab_ring, slab), due)

    def test_many(self):
        for rng in numbers(80, "slab rings"):
            x, y, v = (Fraction(some_whole(rng), rng.randint(1, MOST)) for k in range(3))
            wide = Fraction(rng.randint(1, MOST), rng.randint(1, MOST))
            left, right = rng.choice(((0, 1), (1, 0), (1, 1), (2, Fraction(1, MOST)), (Fraction(1, 3), 0)))
            slab = slab_of((x, y), (x + wide, v), (x + wide, v + right), (x, y + left))
            due = [slab[0], slab[1]] + [slab[2]] * (right > 0) + [slab[3]] * (left > 0)
            with self.subTest(slab):
                self.assertSame(self.asked(slab_ring, slab), due)


class Slabs(KindCase):
    def check(self, cloth):
        with self.subTest(cloth):
            told = self.asked(slabs, cloth)
            self.assertIs(type(told), list)
            for slab in told:
                self.check_form(slab)
            self.assertSame(told, plain_slabs(cloth))
            self.assertEqual(plain_area([slab_ring(slab) for slab in told]), plain_area(cloth))

    def check_form(self, slab):
        self.assertIs(type(slab), tuple)
        self.assertEqual(len(slab), 4)
        for p in slab:
            self.assertPoint(p)
        low_left, low_right, high_right, high_left = (flat(p) for p in slab)
        self.assertEqual(low_left[0], high_left[0])
        self.assertEqual(low_right[0], high_right[0])
        self.assertLess(low_left[0], low_right[0])
        self.assertLessEqual(low_left[1], high_left[1])
        self.assertLessEqual(low_right[1], high_right[1])
        self.assertNotEqual((low_left, low_right), (high_left, high_right))

    def test_no_rings(self):
        self.assertSame(self.asked(slabs, []), [])

    def test_a_box_and_a_wedge(self):
        self.assertSame(slabs([box(0, 0, 3, 2)]), [slab_of((0, 0), (3, 0), (3, 2), (0, 2))])
        self.assertSame(slabs([wedge(0, 0, 4)]), [slab_of((0, 0), (4, 0), (4, 0), (0, 4))])
        self.assertSame(
            slabs([ring_of((0, 0), (2, -2), (3, 3))]),
            [slab_of((0, 0), (2, -2), (2, 2), (0, 0)), slab_of((2, -2), (3, 3), (3, 3), (2, 2))],
        )

    def test_upright_sides_bound_none(self):
        bent = ring_of((0, 0), (4, 0), (4, 1), (1, 1), (1, 3), (0, 3))
        self.assertSame(
            slabs([bent]), [slab_of((0, 0), (1, 0), (1, 3), (0, 3)), slab_of((1, 0), (4, 0), (4, 1), (1, 1))]
        )
        parted = ring_of((0, 0), (2, 0), (2, 1), (2, 2), (0, 2), (0, 1))
        self.assertSame(slabs([parted]), [slab_of((0, 0), (2, 0), (2, 2), (0, 2))])

    def test_holes_leave_gaps(self):
        self.assertSame(
            slabs([box(0, 0, 6, 6), back(box(2, 2, 4, 5))]),
            [
                slab_of((0, 0), (2, 0), (2, 6), (0, 6)), slab_of((2, 0), (4, 0), (4, 2), (2, 2)),
                slab_of((2, 5), (4, 5), (4, 6), (2, 6)), slab_of((4, 0), (6, 0), (6, 6), (4, 6)),
            ],
        )
        self.assertSame(
            slabs([box(0, 0, 3, 4), back(ring_of((1, 2), (2, 1), (2, 3)))]),
            [
                slab_of((0, 0), (1, 0), (1, 4), (0, 4)), slab_of((1, 0), (2, 0), (2, 1), (1, 2)),
                slab_of((1, 2), (2, 3), (2, 4), (1, 4)), slab_of((2, 0), (3, 0), (3, 4), (2, 4)),
            ],
        )

    def test_a_corner_in_the_midst_of_a_side_parts_it(self):
        self.assertSame(
            slabs([ring_of((0, 0), (1, 0), (3, 0), (3, 2), (0, 2))]),
            [slab_of((0, 0), (1, 0), (1, 2), (0, 2)), slab_of((1, 0), (3, 0), (3, 2), (1, 2))],
        )
        self.assertSame(
            slabs([ring_of((0, 0), (4, 0), (2, 2), (0, 4))]),
            [slab_of((0, 0), (2, 0), (2, 2), (0, 4)), slab_of((2, 0), (4, 0), (4, 0), (2, 2))],
        )
        # So does a corner of another ring, be it far above.
        self.assertSame(
            slabs([box(0, 0, 2, 1), ring_of((1, 5), (3, 5), (1, 7))]),
            [
                slab_of((0, 0), (1, 0), (1, 1), (0, 1)), slab_of((1, 0), (2, 0), (2, 1), (1, 1)),
                slab_of((1, 5), (2, 5), (2, 6), (1, 7)), slab_of((2, 5), (3, 5), (3, 5), (2, 6)),
            ],
        )

    def test_gaps_between_cloths_side_by_side(self):
        self.assertSame(
            slabs([box(5, 0, 6, 1), box(0, 0, 1, 1)]),
            [slab_of((0, 0), (1, 0), (1, 1), (0, 1)), slab_of((5, 0), (6, 0), (6, 1), (5, 1))],
        )

    def test_spans_with_one_end_in_common(self):
        arrow = ring_of((0, 0), (5, -3), (2, 0), (5, 3))
        self.assertSame(slabs([arrow]), [
            slab_of((0, 0), (2, Fraction(-6, 5)), (2, Fraction(6, 5)), (0, 0)),
            slab_of((2, Fraction(-6, 5)), (5, -3), (5, -3), (2, 0)),
            slab_of((2, 0), (5, 3), (5, 3), (2, Fraction(6, 5))),
        ])

    def test_places_are_ordered_as_ratios_are(self):
        # As tuples (1, 3) is less than (1, 2), and (-1, 2) is less than (-1, 3).
        xs = [Fraction(k, 6) for k in (-7, -3, -2, 1, 2, 3, 10)]
        self.check([ring_of(*((x, x * x) for x in xs))])
        self.check([ring_of(*((x, -x * x) for x in xs[::-1]))])
        self.check([box(x, Fraction(1, 7), x + Fraction(1, 12), Fraction(1, 3)) for x in xs[:6]])
        self.check([box(0, y, 1, y + Fraction(1, 12)) for y in xs[:6]])

    def test_made_ones(self):
        for cloth in CLOTHS.values():
            self.check(cloth)
            self.check(turned_round(cloth))
            self.check(tilted_by(cloth, Fraction(3, 7)))
            self.check(tilted_by(cloth, Fraction(-5, 2)))
            self.check(slid_by(spread(cloth, Fraction(1, MOST), MOST), Fraction(22, 7), Fraction(-1, 3)))

    def test_many(self):
        for rng in numbers(80, "slabs"):
            self.check(some_cloth(rng))
        for rng in numbers(12, "great slabs"):
            self.check(some_cloth(rng, rng.choice((13, 30))))

    def test_rings_in_any_order_and_from_any_corner(self):
        for rng in numbers(20, "slab order"):
            cloth = some_cloth(rng)
            other = [from_corner(ring, rng.randrange(len(ring))) for ring in rng.sample(cloth, len(cloth))]
            self.assertSame(slabs(other), slabs(cloth))


if __name__ == "__main__":
    unittest.main()
