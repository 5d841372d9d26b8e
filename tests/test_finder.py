"""Points 20 and 21: plans of cloths, and what forbids them."""

import unittest
from fractions import Fraction

from slidecut.errors import CutError, NoPlan
from slidecut.finder import plan
from slidecut.marks import forbids
from tests.helpers import numbers, written
from tests.planning import (
    FLAT_LEANING_BOX, LEANING_BOX, SIX_SIDED, STAIRS, PlanCase, apart, box_of_area, cut_apart,
)
from tests.shapes import (
    CLOTHS, back, box, plain_area, ring_of, slid_by, some_bulge, some_cloth, spread, star, tilted_by, turned_round,
    wedge,
)


class Plan(PlanCase):
    def check(self, one, other, turning, rng=None):
        """A plan of the one to the other."""
        with self.subTest(one=one, other=other, turning=turning):
            moves = self.asked(plan, one, other, turning)
            self.assertPlan(one, other, moves, turning, rng)
            return moves

    def check_great(self, one, other, turning, rng=None):
        """A plan of perhaps thousands of moves, asked but once."""
        with self.subTest(one=one, other=other, turning=turning):
            self.assertPlan(one, other, plan(one, other, turning), turning, rng)

    def check_both(self, one, other, rng=None):
        """Plans in both ways of working, ahead and back."""
        for turning in (False, True):
            self.check(one, other, turning, rng)
            self.check(other, one, turning, rng)

    def refused(self, one, other, turning, why):
        with self.subTest(one=one, other=other, turning=turning):
            with self.assertRaises(NoPlan) as caught:
                plan(one, other, turning)
            self.assertSame(caught.exception.why, why)
            self.assertSame(caught.exception.why, forbids(one, other, turning))
            self.assertIsInstance(caught.exception, CutError)

    def test_no_rings(self):
        for turning in (False, True):
            self.assertSame(self.asked(plan, [], [], turning), [])

    def test_the_same_twice(self):
        for name, rng in zip(sorted(CLOTHS), numbers(len(CLOTHS), "twice")):
            self.check(CLOTHS[name], CLOTHS[name], False, rng)

    def test_slid(self):
        for name, rng in zip(sorted(CLOTHS), numbers(len(CLOTHS), "slid")):
            self.check(CLOTHS[name], slid_by(CLOTHS[name], Fraction(22, 7), -5), False, rng)

    def test_cut_and_slid_apart(self):
        for rng in numbers(6, "slid apart"):
            one, other = cut_apart(rng)
            self.check_great(one, other, False, rng)
            self.check_great(other, one, False)
        for rng in numbers(2, "great slid apart"):
            one, other = cut_apart(rng, 2)
            self.check_great(one, other, False)

    def test_boxes(self):
        for rng in numbers(3, "boxes"):
            for wide in (1, 2, 3, 5, Fraction(7, 3), Fraction(1, 9)):
                self.check_both([box(0, 0, 3, 2)], box_of_area(6, wide), rng)
        self.check_both([box(0, 0, 3, 2)], [box(0, 0, 1, 1), box(5, 5, 7, 7), box(9, -9, 10, -8)])

    def test_leaning_boxes_and_stairs(self):
        rng = numbers(1, "leaning")[0]
        self.check_both(LEANING_BOX, box_of_area(6, 2), rng)
        self.check_both(FLAT_LEANING_BOX, box_of_area(6, 5), rng)
        self.check_both(LEANING_BOX, FLAT_LEANING_BOX, rng)
        self.check_both(STAIRS, box_of_area(6, 3), rng)
        self.check_both(STAIRS, LEANING_BOX, rng)
        self.check_both(SIX_SIDED, box_of_area(plain_area(SIX_SIDED), 2), rng)
        self.check_both(SIX_SIDED, turned_round(SIX_SIDED), rng)

    def test_a_wedge_and_itself_turned_half_round(self):
        one = [wedge(0, 0, 4)]
        other = turned_round(one)
        self.refused(one, other, False, ("mark", (-1, 1), (4, 1), (-4, 1)))
        self.refused(other, one, False, ("mark", (-1, 1), (-4, 1), (4, 1)))
        self.check(one, other, True)
        self.assertIn(True, [move[1] for move in self.check(other, one, True)])

    def test_two_of_three_corners(self):
        one = [ring_of((0, 0), (4, 0), (1, 3))]
        for ring in (ring_of((0, 0), (6, 0), (5, 2)), ring_of((0, 0), (2, 1), (-5, Fraction(7, 2))), wedge(0, 0, 3)):
            other = spread([ring], 1, plain_area(one) / plain_area([ring]))
            for first, second in ((one, other), (other, one)):
                self.refused(first, second, False, forbids(first, second, False))
                self.check(first, second, True, numbers(1, "three")[0])

    def test_marks_that_forbid_sliding_alone(self):
        for name in sorted(CLOTHS):
            one = CLOTHS[name]
            other = box_of_area(plain_area(one), 3) if one else []
            why = forbids(one, other, False)
            if why is None:
                self.check(one, other, False)
            else:
                self.refused(one, other, False, why)
            self.check(one, other, True)

    def test_areas_that_differ(self):
        for one, other in (
            ([box(0, 0, 1, 1)], [box(0, 0, 1, 2)]), ([], [wedge(0, 0, 1)]), ([wedge(0, 0, 1)], []),
            (CLOTHS["frame"], CLOTHS["island"]), ([box(0, 0, 1, 1)], [box(0, 0, 1, 1 + Fraction(1, 10 ** 30))]),
        ):
            why = ("area", written(plain_area(one)), written(plain_area(other)))
            self.refused(one, other, False, why)
            self.refused(one, other, True, why)

    def test_parts_and_holes_in_parts(self):
        rng = numbers(1, "parts")[0]
        frame = [box(0, 0, 6, 6), back(box(2, 2, 4, 5))]
        self.check_both(frame, box_of_area(30, 5), rng)
        self.check_both(frame, [box(0, 0, 5, 5), box(6, 0, 7, 5)], rng)
        island = [box(0, 0, 9, 9), back(box(1, 1, 8, 8)), box(3, 3, 5, 6)]
        self.check_both(island, box_of_area(38, 4), rng)
        eight = [box(3 * k, k * k % 5, 3 * k + 2, k * k % 5 + k + 1) for k in range(6)]
        self.check_both(eight, box_of_area(42, 6), rng)
        parts = [wedge(5 * k, 0, 4) for k in range(8)]
        self.check(parts, apart(rng, parts), False, rng)
        self.check(CLOTHS["eight by turns"], slid_by(CLOTHS["eight by turns"], 1, 1), False, rng)

    def test_turned_half_round(self):
        for name, rng in zip(sorted(CLOTHS), numbers(len(CLOTHS), "turned")):
            self.check(CLOTHS[name], turned_round(CLOTHS[name]), True, rng)

    def test_with_itself_turned_half_round_beside_it(self):
        # All marks of these are 0, so that they slide to a box.
        for rng in numbers(8, "beside"):
            ring = some_bulge(rng) if rng.randrange(2) else star(rng, rng.randint(4, 9))
            one = apart(rng, [ring] + turned_round([ring]))
            self.check_great(one, box_of_area(plain_area(one), rng.choice((1, 3))), False)

    def test_tilted(self):
        for name in ("bent", "frame", "island", "arrow", "fine"):
            one = tilted_by(CLOTHS[name], Fraction(5, 3))
            self.check(one, slid_by(one, -1, 2), False)
        for slope in (-4, -1, Fraction(1, 3), 3):
            self.check_both(tilted_by([box(0, 0, 2, 3)], slope), box_of_area(6, 3))

    def test_some_cloths(self):
        for rng in numbers(2, "some plans"):
            one = some_cloth(rng)
            self.check_great(one, one, False, rng)
            self.check_great(one, turned_round(one), True)
            self.check_great(one, box_of_area(plain_area(one), 2), True)

    def test_over_bottoms(self):
        for figures in (3, 3, 12):
            one, other = cut_apart(numbers(1, "plans over bottoms")[0], figures)
            self.check_great(one, other, False)

    def test_far_and_flat(self):
        one = spread(CLOTHS["bent"], Fraction(1, 10 ** 20), 10 ** 20)
        self.check_both(one, box_of_area(plain_area(one), Fraction(3, 10 ** 20)))
        self.check_both([box(0, 0, 40, Fraction(1, 40))], box_of_area(1, 1))

    def test_small_parts_beside_great_ones(self):
        one = [box(0, 0, 9, 9), box(10, 0, 10 + Fraction(1, 1000), Fraction(1, 700)), wedge(20, 0, Fraction(1, 90))]
        other = [box(0, 0, 3, 27), box(-5, 0, -4, Fraction(1, 700000)), wedge(30, 0, Fraction(1, 90))]
        moves = self.check(one, other, False)
        self.assertLess(len(moves), 5000)


if __name__ == "__main__":
    unittest.main()
