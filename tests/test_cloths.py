"""Points 7 and 8: rings and their area; what a cloth is; a cloth's area; where a point stands."""

import unittest
from fractions import Fraction
from itertools import permutations

from slidecut.cloths import area, is_cloth, ring_area, stands
from tests.helpers import MOST, KindCase, flat, numbers, placed, some_point
from tests.shapes import (
    CLOTHS, COMB, SPIRAL, around, back, box, corner, from_corner, plain_area, plain_is_cloth, plain_sides,
    plain_stands, ring_of, slid_by, some_cloth, spread, tilted_by, turned_round, wedge,
)

BOW = ring_of((0, 0), (4, 4), (4, 0), (0, 4))


class RingArea(KindCase):
    def check(self, ring):
        """The area of a ring, from any corner on, and gone round the other way."""
        due = plain_area([ring])
        with self.subTest(ring):
            self.assertRatioIs(self.asked(ring_area, ring), due)
            self.assertRatioIs(ring_area(back(ring)), -due)
            for many in range(1, len(ring)):
                self.assertRatioIs(ring_area(from_corner(ring, many)), due)

    def test_told_ones(self):
        for ring, due in (
            (box(0, 0, 3, 2), (6, 1)), (back(box(0, 0, 3, 2)), (-6, 1)), (wedge(0, 0, 3), (9, 2)),
            (wedge(5, -7, 1), (1, 2)), (ring_of((0, 0), (Fraction(1, 2), 0), (0, Fraction(1, 3))), (1, 12)),
            (ring_of((1, 1), (2, 3), (-1, 4)), (7, 2)), (COMB, (27, 2)), (BOW, (0, 1)),
        ):
            with self.subTest(ring):
                self.assertSame(ring_area(ring), due)

    def test_made_ones(self):
        for name, cloth in CLOTHS.items():
            for ring in cloth:
                self.check(ring)

    def test_crossing_itself_and_points_twice(self):
        self.check(BOW)
        self.check(ring_of((0, 0), (2, 4), (4, 0), (-1, 3), (5, 3)))
        self.check(ring_of((0, 0), (2, 0), (1, 1), (0, 0), (-3, 1), (-3, 0)))
        self.check(ring_of((0, 0), (2, 0), (0, 0), (2, 0)))
        self.check(box(0, 0, 3, 2) * 3)
        self.check(ring_of((0, 0), (1, 1), (3, 3)))
        self.check(ring_of((1, 2), (1, 2), (1, 2)))

    def test_three_to_twenty_four_corners(self):
        for many in range(3, 25):
            for rng in numbers(4, f"corners {many}"):
                self.check([corner(rng.randint(-9, 9), Fraction(rng.randint(-9, 9), rng.randint(1, 6)))
                            for k in range(many)])

    def test_thirty_figures_over_such_bottoms(self):
        self.check(box(-MOST, -MOST, MOST, MOST))
        self.check(ring_of((0, 0), (Fraction(1, MOST), 0), (0, Fraction(1, MOST - 1))))
        self.check(ring_of((0, 0), (MOST, MOST - 1), (MOST - 1, MOST - 2)))
        for rng in numbers(12, "thirty"):
            self.check([some_point(rng) for k in range(rng.choice((3, 4, 9, 24)))])


class IsCloth(KindCase):
    def yes(self, rings):
        with self.subTest(rings):
            self.assertIs(self.asked(is_cloth, rings), True)

    def no(self, rings):
        with self.subTest(rings):
            self.assertIs(self.asked(is_cloth, rings), False)

    def test_made_ones(self):
        for name, cloth in CLOTHS.items():
            self.yes(cloth)
            self.yes(cloth[::-1])
            for many in range(1, 4):
                self.yes([from_corner(ring, many) for ring in cloth])

    def test_led_ones(self):
        for cloth in CLOTHS.values():
            self.yes(slid_by(cloth, Fraction(1, 3), Fraction(-22, 7)))
            self.yes(turned_round(cloth))
            self.yes(tilted_by(cloth, Fraction(5, 3)))
            self.yes(tilted_by(cloth, Fraction(-MOST, 7)))
            self.yes(spread(cloth, Fraction(1, MOST), MOST))

    def test_no_rings(self):
        self.yes([])

    def test_a_ring_gone_round_the_wrong_way(self):
        for cloth in CLOTHS.values():
            for k in range(len(cloth)):
                self.no(cloth[:k] + [back(cloth[k])] + cloth[k + 1:])
            if cloth:
                self.no([back(ring) for ring in cloth])

    def test_fewer_than_three_corners(self):
        for short in ([], ring_of((5, 5)), ring_of((20, 20), (21, 21))):
            self.no([short])
            self.no([short, short])
            self.no([box(0, 0, 1, 1), short])
            self.no([short, box(0, 0, 9, 9)])

    def test_at_most_eight_rings(self):
        eight = [wedge(3 * k, 0, 1) for k in range(8)]
        self.yes(eight)
        self.yes(eight[:7])
        self.no(eight + [wedge(30, 0, 1)])
        self.no([wedge(3 * k, 0, 1) for k in range(40)])
        # Nine are too many, be their corners ever so few.
        self.no(eight + [[]])
        self.no([[]] * 9)

    def test_at_most_twenty_four_corners(self):
        arch = [(k, k * k) for k in range(30)]
        for many in range(3, 25):
            self.yes([ring_of(*arch[:many])])
        for many in range(25, 31):
            self.no([ring_of(*arch[:many])])
        self.yes([ring_of(*arch[:12]), ring_of(*((x - 40, y) for x, y in arch[:12]))])
        self.no([ring_of(*arch[:12]), ring_of(*((x - 40, y) for x, y in arch[:13]))])
        self.no([wedge(3 * k, 0, 1) for k in range(7)] + [box(30, 0, 31, 1)])
        self.yes([wedge(3 * k, 0, 1) for k in range(6)] + [box(30, 0, 31, 1)])

    def test_a_corner_twice(self):
        self.no([ring_of((0, 0), (0, 0), (3, 0), (0, 3))])
        self.no([ring_of((0, 0), (3, 0), (0, 3), (0, 0))])
        self.no([ring_of((0, 0), (2, 0), (1, 1), (0, 2), (-2, 2), (-2, 1), (0, 2))])
        self.no([ring_of((0, 0), (2, -1), (2, 1), (0, 0), (-2, 1), (-2, -1))])
        self.no([ring_of((1, 1), (1, 1), (1, 1))])
        self.no([ring_of((0, 0), (1, 1), (0, 0))])
        self.no([box(0, 0, 1, 1) * 2])

    def test_sides_of_one_ring_that_cross(self):
        self.no([BOW])
        self.no([back(BOW)])
        self.no([ring_of((0, 0), (2, 4), (4, 0), (-1, 3), (5, 3))])
        self.no([ring_of((0, 0), (9, 0), (9, 9), (5, -1), (0, 9))])

    def test_sides_of_one_ring_that_touch(self):
        # A corner lies on a side that is not its own, a level one, an upright one, a slanting one.
        self.no([ring_of((0, 0), (4, 0), (4, 4), (2, 0), (0, 4))])
        self.no([ring_of((0, 0), (4, 0), (0, 2), (4, 4), (4, 5), (0, 5))])
        self.no([ring_of((0, 0), (6, 6), (0, 6), (3, 3), (-1, 6))])
        self.yes([ring_of((0, 0), (4, 0), (4, 4), (2, Fraction(1, MOST)), (0, 4))])
        self.no([ring_of((0, 0), (4, 0), (4, 4), (2, Fraction(-1, MOST)), (0, 4))])

    def test_sides_of_one_ring_on_one_another(self):
        self.no([ring_of((0, 0), (6, 0), (6, 2), (4, 0), (2, 0), (0, 2))])
        self.no([ring_of((0, 0), (3, 0), (3, 3), (4, 3), (4, 0), (2, 0), (2, -1), (0, -1))])

    def test_a_side_that_runs_back(self):
        self.no([ring_of((0, 0), (4, 0), (2, 0), (2, 3))])
        self.no([ring_of((2, 0), (4, 0), (0, 0), (0, 3))])
        self.no([ring_of((0, 0), (3, 3), (1, 1), (0, 5))])
        self.no([ring_of((0, 0), (0, 4), (0, 1), (-5, 1))])
        self.no([ring_of((0, 0), (1, 0), (2, 0))])
        self.no([ring_of((0, 0), (2, 4), (1, 2))])
        self.no([ring_of((0, 3), (0, 0), (0, 5), (-1, 1))])
        # So it is where the last side or the first one runs back.
        ring = ring_of((0, 0), (4, 0), (2, 0), (2, 3), (1, 1))
        for many in range(5):
            self.no([from_corner(ring, many)])
            self.no([back(from_corner(ring, many))])

    def test_three_corners_on_one_line_are_let_by(self):
        self.yes([ring_of((0, 0), (1, 0), (2, 0), (0, 2))])
        self.yes([ring_of((0, 0), (2, 0), (1, 1), (0, 2))])
        self.yes([ring_of((0, 0), (2, 0), (0, 2), (0, 1))])
        self.yes([ring_of((0, 0), (6, 0), (6, 2), (4, 2), (4, 1), (2, 1), (2, 2), (0, 2))])
        self.yes([ring_of((0, 0), (Fraction(1, MOST), 0), (MOST, 0), (0, 1))])

    def test_two_rings_that_cross(self):
        self.no([box(0, 0, 4, 4), box(2, 2, 6, 6)])
        self.no([box(0, 0, 4, 4), back(box(2, 2, 6, 6))])
        self.no([box(0, 1, 6, 2), box(2, 0, 3, 5)])
        self.no([around(3), turned_round([around(3)])[0]])

    def test_two_rings_that_touch(self):
        self.no([box(0, 0, 2, 2), box(2, 2, 4, 4)])
        self.no([box(0, 0, 2, 2), ring_of((2, 1), (4, 0), (4, 2))])
        self.no([box(0, 0, 4, 4), back(wedge(0, 0, 1))])
        self.no([box(0, 0, 4, 4), back(ring_of((0, 2), (2, 1), (2, 3)))])
        self.no([box(0, 0, 4, 4), back(box(1, 0, 2, 2))])
        self.no([box(0, 0, 2, 2), box(2, 0, 4, 2)])
        self.no([box(0, 0, 2, 3), box(2, 1, 4, 2)])
        self.no([box(0, 0, 2, 3), box(2, 1, 4, 5)])
        hair = Fraction(1, MOST)
        self.yes([box(0, 0, 2, 2), box(2 + hair, 2, 4, 4)])
        self.yes([box(0, 0, 2, 2), ring_of((2 + hair, 1), (4, 0), (4, 2))])
        self.yes([box(0, 0, 4, 4), back(ring_of((hair, 2), (2, 1), (2, 3)))])

    def test_two_rings_that_share_a_corner_as_one_goes_on_from_the_other(self):
        self.no([ring_of((0, 0), (2, 0), (1, 2)), ring_of((2, 0), (4, 0), (3, 2))])
        self.no([ring_of((0, 0), (2, 0), (1, 2)), ring_of((4, 0), (3, 2), (2, 0))])

    def test_a_ring_told_twice(self):
        for ring in (box(0, 0, 2, 2), wedge(0, 0, 1), COMB):
            self.no([ring, ring])
            self.no([ring, list(ring)])
            self.no([ring, back(ring)])
            self.no([ring, from_corner(ring, 1)])

    def test_sides_on_one_line_apart(self):
        self.yes([box(0, 0, 2, 2), box(3, 0, 4, 2)])
        self.yes([ring_of((0, 0), (1, 1), (0, 2)), ring_of((2, 2), (3, 3), (2, 4))])
        self.yes([box(0, 0, 1, 1), box(0, 2, 1, 3)])

    def test_holes_and_islands(self):
        outer, hole, island = box(0, 0, 20, 20), back(box(1, 1, 19, 19)), box(2, 2, 18, 18)
        pond = back(box(3, 3, 17, 17))
        for rings in permutations([outer, hole, island, pond]):
            self.yes(list(rings))
        self.no([outer, island])
        self.no([outer, pond, hole])
        self.no([hole])
        self.no([outer, island, hole, back(pond)])
        self.yes([outer, hole, wedge(2, 2, 3), wedge(10, 10, 3)])
        self.no([outer, hole, wedge(2, 2, 3), back(wedge(10, 10, 3))])
        self.yes([outer, back(wedge(2, 2, 3)), back(wedge(10, 10, 3))])
        self.no([outer, back(wedge(2, 2, 3)), back(wedge(30, 10, 3))])
        self.no([outer, back(wedge(2, 2, 3)), wedge(10, 10, 3)])

    def test_in_the_bay_of_a_ring_is_not_within_it(self):
        self.yes([SPIRAL, box(Fraction(5, 4), 3, Fraction(7, 4), 8)])
        self.no([SPIRAL, back(box(Fraction(5, 4), 3, Fraction(7, 4), 8))])
        self.yes([SPIRAL, back(wedge(Fraction(1, 2), Fraction(1, 2), Fraction(1, 4)))])
        self.yes([COMB, wedge(Fraction(19, 5), Fraction(5, 2), Fraction(1, 8))])
        self.yes([ring_of((0, 0), (5, -3), (2, 0), (5, 3)), ring_of((3, 0), (4, -1), (4, 1))])

    def test_many(self):
        for rng in numbers(120, "cloths"):
            self.yes(some_cloth(rng))
        for rng in numbers(20, "great cloths"):
            self.yes(some_cloth(rng, 13))

    def test_any_rings_on_a_small_grid(self):
        let_by = 0
        for rng in numbers(1500, "grid"):
            size = rng.choice((3, 4, 6))
            rings = [
                [corner(rng.randrange(size), rng.randrange(size)) for k in range(rng.choice((2, 3, 3, 3, 4, 4, 5, 6)))]
                for ring in range(rng.choice((1, 1, 1, 2, 2, 3)))
            ]
            due = plain_is_cloth(rings)
            let_by += due
            with self.subTest(rings):
                self.assertIs(is_cloth(rings), due)
        self.assertGreater(let_by, 100)

    def test_cloths_changed_a_little(self):
        let_by = 0
        for rng in numbers(400, "changed"):
            cloth = [list(ring) for ring in rng.choice(sorted(CLOTHS.values())[1:])]
            ring = rng.choice(cloth)
            k = rng.randrange(len(ring))
            x, y = flat(ring[k])
            ring[k] = corner(x + rng.randint(-2, 2), y + Fraction(rng.randint(-4, 4), 2))
            if rng.randrange(3) == 0:
                j = rng.randrange(len(ring))
                ring[k], ring[j] = ring[j], ring[k]
            due = plain_is_cloth(cloth)
            let_by += due
            with self.subTest(cloth):
                self.assertIs(is_cloth(cloth), due)
        self.assertGreater(let_by, 100)
        self.assertLess(let_by, 350)


class Area(KindCase):
    def test_told_ones(self):
        self.assertSame(self.asked(area, []), (0, 1))
        for name, due in (
            ("box", (6, 1)), ("wedge", (8, 1)), ("frame", (30, 1)), ("frame, hole first", (30, 1)),
            ("island", (34, 1)), ("two apart", (11, 2)), ("two holes", (28, 1)), ("leaning hole", (30, 1)),
        ):
            with self.subTest(name):
                self.assertSame(self.asked(area, CLOTHS[name]), due)

    def check(self, cloth):
        due = plain_area(cloth)
        with self.subTest(cloth):
            self.assertRatioIs(self.asked(area, cloth), due)
            self.assertRatioIs(area(slid_by(cloth, Fraction(-7, 3), MOST)), due)
            self.assertRatioIs(area(turned_round(cloth)), due)
            self.assertRatioIs(area(tilted_by(cloth, Fraction(22, 7))), due)
            self.assertRatioIs(area(tilted_by(cloth, Fraction(-MOST, 11))), due)

    def test_all(self):
        for cloth in CLOTHS.values():
            self.check(cloth)
        for rng in numbers(40, "area"):
            self.check(some_cloth(rng, rng.choice((1, 2, 13))))


class Stands(KindCase):
    def check(self, cloth, p, due):
        with self.subTest(cloth=cloth, p=p):
            self.assertSame(self.asked(stands, cloth, p), due)

    def test_told_ones(self):
        frame, island = CLOTHS["frame"], CLOTHS["island"]
        for cloth, x, y, due in (
            (frame, 1, 1, "in"), (frame, 3, 3, "out"), (frame, 7, 3, "out"), (frame, -1, 3, "out"),
            (frame, 3, 7, "out"), (frame, 3, -1, "out"), (frame, 0, 0, "side"), (frame, 6, 3, "side"),
            (frame, 3, 2, "side"), (frame, 2, 2, "side"), (frame, 1, 2, "in"), (frame, 5, 5, "in"),
            (frame, 7, 6, "out"), (frame, -1, 0, "out"), (frame, 2, 1, "in"), (frame, 2, 7, "out"),
            (island, Fraction(7, 2), Fraction(7, 2), "in"), (island, 2, 2, "out"), (island, 3, 3, "side"),
            (island, 4, 4, "side"), (island, 2, 3, "out"), (island, Fraction(1, 2), 3, "in"), (island, 6, 3, "out"),
        ):
            self.check(cloth, corner(x, y), due)

    def test_no_rings(self):
        for x, y in ((0, 0), (1, -5), (Fraction(1, 3), MOST)):
            self.check([], corner(x, y), "out")

    def test_corners_and_points_of_sides(self):
        for cloth in CLOTHS.values():
            for ring in cloth:
                for (x, y), (u, v) in plain_sides(ring):
                    for part in (Fraction(0), Fraction(1, 2), Fraction(1, 3), Fraction(MOST - 1, MOST)):
                        self.check(cloth, corner(x + (u - x) * part, y + (v - y) * part), "side")

    def test_beyond_a_side_on_its_line(self):
        for x, y in ((5, 0), (-1, 0), (0, -1), (0, 5), (5, -1), (-1, 5)):
            self.check(CLOTHS["wedge"], corner(x, y), "out")
        self.check(CLOTHS["arrow"], corner(1, 1), "out")
        self.check([ring_of((0, 0), (4, 0), (4, 4), (2, 4), (2, 2), (0, 2))], corner(3, 2), "in")
        self.check([ring_of((0, 0), (4, 0), (4, 4), (2, 4), (2, 2), (0, 2))], corner(2, 1), "in")

    def test_a_grid_of_points(self):
        for name in ("bent", "comb", "spiral", "arrow", "frame", "island", "leaning hole", "eight by turns", "none"):
            cloth = CLOTHS[name]
            for x in range(-10, 23):
                for y in range(-10, 23):
                    p = corner(Fraction(x, 2), Fraction(y, 2))
                    with self.subTest(name=name, p=p):
                        self.assertSame(stands(cloth, p), plain_stands(cloth, p))

    def test_level_and_upright_with_corners(self):
        for cloth in list(CLOTHS.values()) + [some_cloth(rng) for rng in numbers(6, "level")]:
            places = [flat(p) for ring in cloth for p in ring]
            for x, y in places:
                for u, v in places:
                    self.check_plainly(cloth, corner(x, v))
                self.check_plainly(cloth, corner(x, y + Fraction(1, MOST)))
                self.check_plainly(cloth, corner(x - Fraction(1, MOST), y))

    def check_plainly(self, cloth, p):
        with self.subTest(cloth=cloth, p=p):
            self.assertSame(stands(cloth, p), plain_stands(cloth, p))

    def test_thirteen_figures_and_bottoms_alike(self):
        found = set()
        for rng in numbers(40, "thirteen"):
            cloth = some_cloth(rng, 13)
            for k in range(8):
                most = 10 ** 13
                p = corner(Fraction(rng.randint(-most, most), rng.randint(most // 10, most)),
                           Fraction(rng.randint(-most, most), rng.randint(most // 10, most)))
                due = plain_stands(cloth, p)
                found.add(due)
                self.check(cloth, p, due)
            (x, y), (u, v) = rng.choice(plain_sides(rng.choice(cloth)))
            part = Fraction(rng.randint(1, 10 ** 13 - 1), 10 ** 13)
            self.check(cloth, corner(x + (u - x) * part, y + (v - y) * part), "side")
        self.assertEqual(found, {"in", "out"})

    def test_all_but_on_a_side(self):
        great = 10 ** 13
        cloth = [ring_of((0, 0), (great, 1), (great, great))]
        hair = Fraction(1, great ** 3)
        for x in (1, great // 2, great - 1):
            low = Fraction(x, great)
            self.check(cloth, corner(x, low), "side")
            self.check(cloth, corner(x, low + hair), "in")
            self.check(cloth, corner(x, low - hair), "out")
            self.check(cloth, corner(x, x), "side")
            self.check(cloth, corner(x, x - hair), "in")
            self.check(cloth, corner(x, x + hair), "out")

    def test_rings_in_any_order_and_from_any_corner(self):
        for rng in numbers(20, "order"):
            cloth = some_cloth(rng)
            other = [from_corner(ring, rng.randrange(len(ring))) for ring in rng.sample(cloth, len(cloth))]
            for k in range(12):
                p = placed(Fraction(rng.randint(-40, 40), 3), Fraction(rng.randint(-40, 40), 3))
                self.check_plainly(cloth, p)
                self.assertSame(stands(other, p), stands(cloth, p))


if __name__ == "__main__":
    unittest.main()
