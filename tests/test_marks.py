"""Points 9 and 10: directions, ways of steps, marks of a cloth, and what forbids a plan."""

import unittest
from fractions import Fraction
from itertools import product
from math import gcd

from slidecut.marks import forbids, marks, way_of
from tests.helpers import MOST, KindCase, flat, is_whole, numbers, some_point, written
from tests.shapes import (
    CLOTHS, around, back, box, corner, from_corner, plain_area, plain_sides, ring_of, slid_by, some_cloth, tilted_by,
    turned_round, wedge,
)


def plain_way(right, up):
    """The direction of a step, and by what of it the step goes."""
    if up == 0:
        return ((1, 0), right)
    slope = right / up
    return ((slope.numerator, slope.denominator), up / slope.denominator)


def plain_marks(cloth):
    """The marks that are not 0, by their directions."""
    sums = {}
    for ring in cloth:
        for (x, y), (u, v) in plain_sides(ring):
            direction, part = plain_way(u - x, v - y)
            sums[direction] = sums.get(direction, Fraction(0)) + part
    return {direction: total for direction, total in sums.items() if total}


def plain_forbids(one, other, turning):
    """What forbids a plan."""
    if plain_area(one) != plain_area(other):
        return ("area", written(plain_area(one)), written(plain_area(other)))
    if turning:
        return None
    both = [plain_marks(one), plain_marks(other)]
    differing = [way for way in {**both[0], **both[1]} if both[0].get(way, 0) != both[1].get(way, 0)]
    if not differing:
        return None
    least = min(differing)
    return ("mark", least, *(written(Fraction(those.get(least, 0))) for those in both))


class WayOf(KindCase):
    def check(self, step):
        right, up = flat(step)
        with self.subTest(step):
            told = way_of(step)
            self.assertIs(type(told), tuple)
            self.assertEqual(len(told), 2)
            (c, d), part = told
            self.assertTrue(is_whole(c) and is_whole(d))
            self.assertTrue(d > 0 or (c, d) == (1, 0))
            self.assertEqual(gcd(c, d), 1)
            self.assertRatio(part)
            self.assertNotEqual(part, (0, 1))
            self.assertEqual((Fraction(*part) * c, Fraction(*part) * d), (right, up))
            direction, due = plain_way(right, up)
            self.assertSame(told, (direction, written(due)))

    def test_told_ones(self):
        for step, due in (
            ((3, 0, 1), ((1, 0), (3, 1))), ((-3, 0, 1), ((1, 0), (-3, 1))), ((0, 5, 1), ((0, 1), (5, 1))),
            ((0, -5, 2), ((0, 1), (-5, 2))), ((4, 6, 1), ((2, 3), (2, 1))), ((-4, -6, 1), ((2, 3), (-2, 1))),
            ((-4, 6, 3), ((-2, 3), (2, 3))), ((4, -6, 5), ((-2, 3), (-2, 5))), ((1, 1, 7), ((1, 1), (1, 7))),
            ((-1, 1, 1), ((-1, 1), (1, 1))), ((6, 4, 9), ((3, 2), (2, 9))), ((-1, 0, MOST), ((1, 0), (-1, MOST))),
        ):
            with self.subTest(step):
                self.assertSame(way_of(step), due)

    def test_all_small_ones(self):
        for a, b, n in product(range(-7, 8), range(-7, 8), (1, 2, 3, 6)):
            if (a, b) != (0, 0):
                self.check(corner(Fraction(a, n), Fraction(b, n)))

    def test_thirty_figures(self):
        for a, b, n in (
            (MOST, MOST - 1, 1), (-MOST, MOST - 1, 7), (MOST, -MOST, 1), (0, -MOST, 2), (-MOST, 0, MOST - 1),
            (1, MOST, 1), (MOST, -1, MOST - 1), (6 * 10 ** 28, -9 * 10 ** 28, 1),
        ):
            self.check(corner(Fraction(a, n), Fraction(b, n)))
        for rng in numbers(300, "ways"):
            step = some_point(rng)
            if step != (0, 0, 1):
                self.check(step)


class Marks(KindCase):
    def check(self, cloth):
        with self.subTest(cloth):
            told = self.asked(marks, cloth)
            due = sorted((direction, written(total)) for direction, total in plain_marks(cloth).items())
            self.assertSame(told, due)
            for part in (0, 1):
                self.assertEqual(sum(Fraction(*share) * direction[part] for direction, share in told), 0)
            self.assertSame(marks(slid_by(cloth, Fraction(-22, 7), MOST)), due)
            self.assertSame(marks(turned_round(cloth)), [(way, (-top, bottom)) for way, (top, bottom) in due])
            self.assertSame(marks([from_corner(ring, 2) for ring in cloth][::-1]), due)

    def test_told_ones(self):
        for cloth, due in (
            ([wedge(0, 0, 2)], [((-1, 1), (2, 1)), ((0, 1), (-2, 1)), ((1, 0), (2, 1))]),
            ([around(1)], [((-2, 3), (1, 1)), ((1, 0), (4, 1)), ((2, 3), (-1, 1))]),
            (CLOTHS["leaning hole"], [((-2, 3), (-1, 1)), ((1, 0), (-4, 1)), ((2, 3), (1, 1))]),
            # Its sides are (5, -3), (-3, 3), (3, 3) and (-5, -3).
            (CLOTHS["arrow"], [((-5, 3), (-1, 1)), ((-1, 1), (3, 1)), ((1, 1), (3, 1)), ((5, 3), (-1, 1))]),
        ):
            with self.subTest(cloth):
                self.assertSame(marks(cloth), due)

    def test_cloths_without_marks(self):
        for name in ("none", "box", "bent", "spiral", "frame", "frame, hole first", "corners on one line"):
            with self.subTest(name):
                self.assertSame(self.asked(marks, CLOTHS[name]), [])
        leaning = [ring_of((0, 0), (3, 1), (4, 5), (1, 4))]
        self.assertSame(marks(leaning), [])
        self.assertSame(marks([ring_of((0, 0), (2, 0), (3, 1), (3, 3), (1, 3), (0, 2))]), [])
        self.assertSame(marks(tilted_by(CLOTHS["frame"], Fraction(7, 3))), [])

    def test_a_hole_counts_the_other_way(self):
        hole = wedge(1, 1, 2)
        with_hole = [box(0, 0, 9, 9), back(hole)]
        self.assertSame(marks(with_hole), [(way, (-top, bottom)) for way, (top, bottom) in marks([hole])])
        # A hole and an island of the same form leave nothing.
        self.assertSame(marks([box(0, 0, 9, 9), back(hole), wedge(20, 20, 2)]), [])
        self.assertSame(marks([wedge(0, 0, 9), back(wedge(1, 1, 2))]), marks([wedge(0, 0, 7)]))

    def test_sides_of_one_direction_come_together(self):
        self.assertSame(
            marks([wedge(0, 0, 2), wedge(5, 0, 3)]), [((-1, 1), (5, 1)), ((0, 1), (-5, 1)), ((1, 0), (5, 1))]
        )
        self.assertSame(marks([wedge(0, 0, 2), turned_round([wedge(5, 0, 2)])[0]]), [])
        parted = ring_of((0, 0), (1, 0), (2, 0), (Fraction(1, 3), Fraction(5, 3)), (0, 2), (0, 1))
        self.assertSame(marks([parted]), marks([wedge(0, 0, 2)]))

    def test_all_and_many(self):
        for cloth in CLOTHS.values():
            self.check(cloth)
            self.check(tilted_by(cloth, Fraction(-3, 5)))
        for rng in numbers(60, "marks"):
            self.check(some_cloth(rng, rng.choice((1, 2, 13, 30))))


class Forbids(KindCase):
    def check(self, one, other, due):
        """What forbids sliding; and what does so with half turns let in."""
        with self.subTest(one=one, other=other):
            self.assertSame(self.asked(forbids, one, other, False), due)
            turned_due = due if due and due[0] == "area" else None
            self.assertSame(self.asked(forbids, one, other, True), turned_due)

    def test_areas(self):
        self.check([box(0, 0, 3, 2)], [box(0, 0, 2, 2)], ("area", (6, 1), (4, 1)))
        self.check([box(0, 0, 2, 2)], [box(0, 0, 3, 2)], ("area", (4, 1), (6, 1)))
        self.check([], [box(0, 0, 3, 2)], ("area", (0, 1), (6, 1)))
        self.check([wedge(0, 0, 1)], [], ("area", (1, 2), (0, 1)))
        self.check([box(0, 0, MOST, MOST)], [box(0, 0, MOST, MOST + Fraction(1, MOST))],
                   ("area", (MOST * MOST, 1), (MOST * MOST + 1, 1)))

    def test_areas_are_told_ahead_of_marks(self):
        self.check([wedge(0, 0, 3)], [box(0, 0, 2, 2)], ("area", (9, 2), (4, 1)))
        self.check([wedge(0, 0, 3)], turned_round([wedge(0, 0, 2)]), ("area", (9, 2), (2, 1)))

    def test_marks(self):
        half = turned_round([wedge(0, 0, 2)])
        self.check([wedge(0, 0, 2)], [box(0, 0, 2, 1)], ("mark", (-1, 1), (2, 1), (0, 1)))
        self.check([box(0, 0, 2, 1)], [wedge(0, 0, 2)], ("mark", (-1, 1), (0, 1), (2, 1)))
        self.check([wedge(0, 0, 2)], half, ("mark", (-1, 1), (2, 1), (-2, 1)))
        self.check(half, [wedge(7, 7, 2)], ("mark", (-1, 1), (-2, 1), (2, 1)))
        self.check([wedge(0, 0, 2)], [ring_of((0, 0), (3, -1), (1, 1))], ("mark", (-3, 1), (0, 1), (-1, 1)))

    def test_the_least_direction_that_differs(self):
        # Both have the same mark of (-1, 1), the least that either has.
        one = [wedge(0, 0, 2), box(5, 5, 6, 6)]
        other = [ring_of((0, 0), (2, 1), (0, 3))]
        self.check(one, other, ("mark", (0, 1), (-2, 1), (-3, 1)))
        self.check(other, one, ("mark", (0, 1), (-3, 1), (-2, 1)))
        # A direction that just one of both has differs too.
        self.check([wedge(0, 0, 2)], [ring_of((0, 0), (1, 0), (5, 4))], ("mark", (-1, 1), (2, 1), (0, 1)))
        self.check([box(0, 0, 2, 1)], [ring_of((0, 0), (1, 0), (5, 4))], ("mark", (1, 0), (0, 1), (1, 1)))

    def test_none_is_due(self):
        self.check([], [], None)
        self.check([box(0, 0, 3, 2)], [box(4, 4, 5, 10)], None)
        self.check(CLOTHS["frame"], [box(0, 0, 5, 6)], None)
        self.check([wedge(0, 0, 4)], [wedge(9, 9, 2), ring_of((0, 0), (4, 0), (2, 2), (0, 2))], None)
        # Of a half and its turned half all marks go against one another.
        self.check([wedge(1, 1, 2), turned_round([wedge(1, 1, 2)])[0]], [box(0, 0, 2, 2)], None)
        leaning = ring_of((0, 0), (3, 1), (4, 5), (1, 4))
        self.check([leaning], [box(0, 0, 11, 1)], None)
        for cloth in CLOTHS.values():
            self.check(cloth, cloth, None)
            self.check(cloth, slid_by(cloth, Fraction(-5, 3), 17), None)

    def test_made_ones_each_with_each(self):
        for one, other in product(CLOTHS.values(), repeat=2):
            self.check(one, other, plain_forbids(one, other, False))

    def test_of_like_areas(self):
        ends = product(range(-2, 3), repeat=4)
        rings = [ring_of((0, 0), (a, b), (c, d)) for a, b, c, d in ends if a * d - b * c == 4]
        rings += [box(0, 0, 2, 1), ring_of((0, 0), (1, 0), (2, 2), (1, 2))]
        kinds = set()
        for one, other in product(rings, repeat=2):
            due = plain_forbids([one], [other], False)
            kinds.add(due[1] if due else None)
            with self.subTest(one=one, other=other):
                self.assertSame(forbids([one], [other], False), due)
                self.assertSame(forbids([one], [other], True), None)
        self.assertGreater(len(kinds), 5)
        self.assertIn(None, kinds)


if __name__ == "__main__":
    unittest.main()
