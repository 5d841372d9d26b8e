"""Points 5 and 6: points, steps, half turns, tilts; hands and where lines meet."""

import unittest
from fractions import Fraction
from itertools import permutations

from slidecut.errors import NoPoint
from slidecut.points import at, meet, point, side, slid, step_to, tilted, turned, x_of, y_of
from tests.helpers import MOST, KindCase, flat, numbers, placed, some_point, some_whole, some_whole_but_0, written

ORIGIN = (0, 0, 1)
SOME = (
    ORIGIN, (1, 0, 1), (0, 1, 1), (-1, -1, 1), (3, -5, 2), (2, 3, 6), (6, 10, 15), (4, 6, 3), (0, -1, 4),
    (MOST, -MOST, 1), (1, -1, MOST), (MOST - 1, 1 - MOST, MOST), (0, 1 - MOST, MOST), (MOST, MOST - 1, 2),
)
SOME_RATIOS = (
    (0, 1), (1, 1), (-1, 1), (2, 3), (-3, 2), (MOST, 1), (-1, MOST), (MOST - 1, MOST), (1 - MOST, MOST - 2),
    (MOST, MOST - 1),
)


def between(p, q, part):
    """The point of the line through p and q, a part of the way from p to q on."""
    (x, y), (u, v) = flat(p), flat(q)
    return placed(x + (u - x) * part, y + (v - y) * part)


class Made(KindCase):
    def test_small_ones_of_either_sign(self):
        for a in range(-6, 7):
            for b in range(-6, 7):
                for n in (-12, -6, -5, -2, -1, 1, 2, 3, 4, 6, 30):
                    with self.subTest(a=a, b=b, n=n):
                        self.assertPointIs(point(a, b, n), Fraction(a, n), Fraction(b, n))

    def test_told_ones(self):
        for handed, due in (
            ((2, 4, 6), (1, 2, 3)), ((2, 4, -6), (-1, -2, 3)), ((-2, 4, 6), (-1, 2, 3)), ((5, 0, 5), (1, 0, 1)),
            ((0, 3, 9), (0, 1, 3)), ((3, 0, -9), (-1, 0, 3)), ((7, 9, 1), (7, 9, 1)), ((7, -9, -1), (-7, 9, 1)),
        ):
            with self.subTest(handed):
                self.assertSame(point(*handed), due)

    def test_two_may_have_one_in_common(self):
        for due in ((2, 4, 3), (2, 3, 4), (3, 2, 4), (6, 10, 15), (0, 5, 3), (5, 0, 3)):
            with self.subTest(due):
                self.assertSame(point(*due), due)
                self.assertSame(point(*(-7 * k for k in due)), due)

    def test_both_first_ones_0(self):
        for n in (1, -1, 2, -30, MOST, -MOST):
            with self.subTest(n):
                self.assertSame(point(0, 0, n), ORIGIN)

    def test_thirty_figures(self):
        great = 10 ** 28 + 7
        self.assertSame(point(MOST, 1 - MOST, MOST - 2), (MOST, 1 - MOST, MOST - 2))
        self.assertSame(point(MOST, 1 - MOST, 2 - MOST), (-MOST, MOST - 1, MOST - 2))
        self.assertSame(point(6 * great, -10 * great, 15 * great), (6, -10, 15))
        self.assertSame(point(6 * great, -10 * great, -14 * great), (-3, 5, 7))

    def test_many(self):
        for rng in numbers(300, "point"):
            a, b, n = some_whole(rng), some_whole(rng), some_whole_but_0(rng)
            part = rng.randint(1, 10 ** 15)
            with self.subTest(a=a, b=b, n=n, part=part):
                x, y = Fraction(a, n), Fraction(b, n)
                self.assertPointIs(point(a, b, n), x, y)
                self.assertPointIs(point(a * part, b * part, n * part), x, y)
                self.assertPointIs(point(-a, -b, -n), x, y)

    def test_third_0_is_refused(self):
        for a, b in ((0, 0), (1, 0), (0, 1), (-3, 5), (MOST, -MOST)):
            with self.subTest(a=a, b=b), self.assertRaises(NoPoint):
                point(a, b, 0)


class Places(KindCase):
    def test_told_ones(self):
        self.assertSame(x_of((2, 3, 6)), (1, 3))
        self.assertSame(y_of((2, 3, 6)), (1, 2))
        self.assertSame(x_of((0, -5, 3)), (0, 1))
        self.assertSame(y_of((-5, 0, 3)), (0, 1))
        self.assertSame(at((1, 3), (1, 2)), (2, 3, 6))
        self.assertSame(at((1, 2), (-3, 2)), (1, -3, 2))
        self.assertSame(at((1, 6), (1, 4)), (2, 3, 12))
        self.assertSame(at((0, 1), (0, 1)), ORIGIN)

    def test_x_and_y_in_lowest_terms(self):
        for p in SOME:
            with self.subTest(p):
                x, y = flat(p)
                self.assertRatioIs(x_of(p), x)
                self.assertRatioIs(y_of(p), y)
                self.assertSame(at(x_of(p), y_of(p)), p)

    def test_at_has_these_places_again(self):
        for rng in numbers(300, "at"):
            x = Fraction(some_whole(rng), some_whole_but_0(rng))
            y = Fraction(some_whole(rng), some_whole_but_0(rng))
            with self.subTest(x=x, y=y):
                told = at(written(x), written(y))
                self.assertPointIs(told, x, y)
                self.assertSame(x_of(told), written(x))
                self.assertSame(y_of(told), written(y))


class Steps(KindCase):
    def check(self, p, q):
        """Sliding and steps between both, against Python's own fractions."""
        (x, y), (u, v) = flat(p), flat(q)
        with self.subTest(p=p, q=q):
            step = step_to(p, q)
            self.assertPointIs(step, u - x, v - y)
            self.assertSame(slid(p, step), q)
            self.assertSame(slid(q, step_to(q, p)), p)
            self.assertPointIs(slid(p, q), x + u, y + v)
            self.assertSame(slid(slid(p, q), (-q[0], -q[1], q[2])), p)

    def test_told_ones(self):
        self.assertSame(slid((1, 2, 1), (3, -5, 1)), (4, -3, 1))
        self.assertSame(slid((1, 1, 2), (1, 1, 2)), (1, 1, 1))
        self.assertSame(slid((1, 0, 2), (0, 1, 3)), (3, 2, 6))
        self.assertSame(step_to((1, 2, 1), (4, -3, 1)), (3, -5, 1))
        self.assertSame(step_to((1, 0, 2), (0, 1, 3)), (-3, 2, 6))
        self.assertSame(step_to((1, 1, 6), (1, 1, 2)), (1, 1, 3))

    def test_all_pairs(self):
        for p in SOME:
            for q in SOME:
                self.check(p, q)

    def test_many(self):
        for rng in numbers(200, "steps"):
            self.check(some_point(rng), some_point(rng))

    def test_to_itself(self):
        for p in SOME:
            with self.subTest(p):
                self.assertSame(step_to(p, p), ORIGIN)
                self.assertSame(slid(p, ORIGIN), p)


class Turned(KindCase):
    def test_told_ones(self):
        self.assertSame(turned((3, -5, 2)), (-3, 5, 2))
        self.assertSame(turned(ORIGIN), ORIGIN)

    def test_some(self):
        for p in SOME:
            with self.subTest(p):
                self.assertSame(turned(p), (-p[0], -p[1], p[2]))
                self.assertSame(turned(turned(p)), p)


class Tilted(KindCase):
    def check(self, p, tilt):
        x, y = flat(p)
        with self.subTest(p=p, tilt=tilt):
            told = tilted(p, tilt)
            self.assertPointIs(told, x, y + x * Fraction(*tilt))
            self.assertSame(tilted(told, (-tilt[0], tilt[1])), p)

    def test_told_ones(self):
        self.assertSame(tilted((2, 1, 1), (3, 1)), (2, 7, 1))
        self.assertSame(tilted((2, 1, 1), (-1, 2)), (2, 0, 1))
        self.assertSame(tilted((-2, 1, 1), (1, 2)), (-2, 0, 1))
        self.assertSame(tilted((1, 1, 2), (1, 3)), (3, 4, 6))
        self.assertSame(tilted((0, 5, 1), (7, 2)), (0, 5, 1))
        self.assertSame(tilted((3, 0, 2), (2, 3)), (3, 2, 2))

    def test_by_0_it_stays(self):
        for p in SOME:
            with self.subTest(p):
                self.assertSame(tilted(p, (0, 1)), p)

    def test_all_and_many(self):
        for p in SOME:
            for tilt in SOME_RATIOS:
                self.check(p, tilt)
        for rng in numbers(200, "tilted"):
            self.check(some_point(rng), written(Fraction(some_whole(rng), some_whole_but_0(rng))))


class Side(KindCase):
    def check(self, p, q, r, due):
        """The hand, whichever two of the three it is seen along."""
        with self.subTest(p=p, q=q, r=r):
            for one, other, third in ((p, q, r), (q, r, p), (r, p, q)):
                if one != other:
                    self.assertSame(side(one, other, third), due)
                    self.assertSame(side(other, one, third), -due)

    def test_told_ones(self):
        self.check((0, 0, 1), (1, 0, 1), (0, 1, 1), 1)
        self.check((0, 0, 1), (1, 0, 1), (0, -1, 1), -1)
        self.check((0, 0, 1), (0, 1, 1), (1, 5, 7), -1)
        self.check((-1, -1, 2), (1, 1, 3), (1, 2, 5), 1)

    def test_on_the_line(self):
        for p in SOME:
            for q in SOME:
                if p != q:
                    with self.subTest(p=p, q=q):
                        self.assertSame(side(p, q, p), 0)
                        self.assertSame(side(p, q, q), 0)
                    for part in (Fraction(1, 2), Fraction(1, 7), Fraction(-3, 2), Fraction(5), Fraction(1, MOST)):
                        self.check(p, q, between(p, q, part), 0)

    def test_very_near_to_the_line(self):
        hair = Fraction(1, MOST)
        for p, q in (((0, 0, 1), (MOST, MOST - 1, 1)), ((-MOST, 1, 1), (MOST, MOST, 7)), ((1, 1, MOST), (1, 2, 1))):
            for part in (Fraction(0), Fraction(1, 3), Fraction(1), Fraction(-2), Fraction(9, 2)):
                x, y = flat(between(p, q, part))
                right = flat(q)[0] > flat(p)[0]
                self.check(p, q, placed(x, y + hair), 1 if right else -1)
                self.check(p, q, placed(x, y - hair), -1 if right else 1)

    def test_very_near_points_of_thirty_figures(self):
        # Twice the area that these three go round is 1, whose places have thirty figures.
        p, q, r = (0, 0, 1), (MOST, MOST - 1, 1), (MOST - 1, MOST - 2, 1)
        self.check(p, q, r, -1)
        self.check(p, r, q, 1)
        self.check((-MOST, -MOST, 1), (MOST - 1, MOST, 1), (0, 0, 1), -1)

    def test_many(self):
        for rng in numbers(200, "side"):
            p, q, r = some_point(rng), some_point(rng), some_point(rng)
            if p != q:
                (x, y), (u, v), (s, t) = flat(p), flat(q), flat(r)
                turn = (u - x) * (t - y) - (v - y) * (s - x)
                self.check(p, q, r, 1 if turn > 0 else -1 if turn < 0 else 0)

    def test_turned_half_round_the_hand_stays(self):
        for p, q, r in permutations(SOME[:8], 3):
            with self.subTest(p=p, q=q, r=r):
                self.assertSame(side(turned(p), turned(q), turned(r)), side(p, q, r))


class Meet(KindCase):
    def check(self, p, q, r, s, due):
        """The point, whatever the order of the points and of the lines."""
        for one, other in (((p, q), (r, s)), ((r, s), (p, q))):
            for a, b in (one, one[::-1]):
                for c, d in (other, other[::-1]):
                    with self.subTest(a=a, b=b, c=c, d=d):
                        self.assertPoint(meet(a, b, c, d))
                        self.assertSame(meet(a, b, c, d), due)

    def refuse(self, p, q, r, s):
        for one, other in (((p, q), (r, s)), ((r, s), (p, q))):
            for a, b in (one, one[::-1]):
                for c, d in (other, other[::-1]):
                    with self.subTest(a=a, b=b, c=c, d=d), self.assertRaises(NoPoint):
                        meet(a, b, c, d)

    def test_told_ones(self):
        self.check((0, 0, 1), (2, 2, 1), (0, 2, 1), (2, 0, 1), (1, 1, 1))
        self.check((0, 0, 1), (1, 0, 1), (0, 0, 1), (0, 1, 1), (0, 0, 1))
        self.check((-1, 0, 1), (1, 0, 1), (1, -1, 3), (1, 1, 3), (1, 0, 3))
        self.check((0, 0, 1), (3, 1, 1), (0, 1, 1), (1, 0, 1), (3, 1, 4))

    def test_in_one_of_the_points_told(self):
        self.check((0, 0, 1), (4, 2, 1), (4, 2, 1), (5, 7, 1), (4, 2, 1))
        self.check((0, 0, 1), (4, 2, 1), (2, 1, 1), (5, 7, 1), (2, 1, 1))
        self.check((1, 1, 2), (4, 2, 3), (1, 1, 2), (5, 7, 9), (1, 1, 2))

    def test_beyond_the_points_told(self):
        self.check((0, 0, 1), (1, 1, 1), (10, 0, 1), (9, 1, 1), (5, 5, 1))
        self.check((0, 0, 1), (1, 1, 1), (-10, 0, 1), (-9, -1, 1), (-5, -5, 1))
        self.check((0, 1, 1), (1, 1, 1), (0, 0, 1), (MOST, 1, 1), (MOST, 1, 1))

    def test_lines_all_but_of_one_direction(self):
        # Both go up all but alike, and meet at a place of sixty figures.
        far = MOST * (MOST - 1)
        self.check((0, 0, 1), (MOST, 1, 1), (0, 1, 1), (MOST - 1, 2, 1), (-far, 1 - MOST, 1))

    def test_through_a_known_point(self):
        for rng in numbers(200, "meet"):
            due, p, r = some_point(rng), some_point(rng), some_point(rng)
            if p != due and r != due:
                (x, y), (u, v), (s, t) = flat(due), flat(p), flat(r)
                q = between(p, due, Fraction(rng.randint(1, 9), rng.randint(10, 20)))
                other = between(r, due, Fraction(rng.randint(11, 30), 7))
                if (u - x) * (t - y) != (v - y) * (s - x):
                    self.check(p, q, r, other, due)
                else:
                    self.refuse(p, q, r, other)

    def test_one_direction_apart_is_refused(self):
        self.refuse((0, 0, 1), (1, 0, 1), (0, 1, 1), (1, 1, 1))
        self.refuse((0, 0, 1), (0, 1, 1), (1, 0, 1), (1, 9, 1))
        self.refuse((0, 0, 1), (2, 4, 1), (1, 0, 3), (2, 2, 3))
        for rng in numbers(60, "apart"):
            p, q, step = some_point(rng), some_point(rng), some_point(rng)
            if p != q:
                (x, y), (u, v), (s, t) = flat(p), flat(q), flat(step)
                self.refuse(p, q, placed(x + s, y + t), placed(u + s, v + t))

    def test_the_same_line_is_refused(self):
        self.refuse((0, 0, 1), (1, 1, 1), (0, 0, 1), (1, 1, 1))
        self.refuse((0, 0, 1), (1, 1, 1), (2, 2, 1), (1, 1, 3))
        self.refuse((0, 0, 1), (0, 1, 1), (0, 5, 1), (0, -1, 7))
        for p in SOME:
            for q in SOME:
                if p != q:
                    self.refuse(p, q, between(p, q, Fraction(1, 3)), between(p, q, Fraction(-5, 2)))

    def test_the_point_lies_on_both_lines(self):
        for p, q, r, s in permutations(SOME[:7], 4):
            try:
                told = meet(p, q, r, s)
            except NoPoint:
                continue
            with self.subTest(p=p, q=q, r=r, s=s):
                self.assertSame((side(p, q, told), side(r, s, told)), (0, 0))


if __name__ == "__main__":
    unittest.main()
