"""Points 19 and 20: what rings have in common, and sheets laid over one another."""

import unittest
from fractions import Fraction

from slidecut.overlays import common, laid_over
from slidecut.sheets import fresh, half_turned
from tests.helpers import flat, numbers
from tests.laying import (
    LOZENGE, STAYS, SheetCase, cut_in_two, firsts_in, holds, in_pieces, midst, plain_first, plain_led, plain_parts,
)
from tests.shapes import (
    box, corner, from_corner, from_least, hull, plain_area, ring_of, slid_by, some_bulge, spread, turned_round, wedge,
)


def plain_common(one, other):
    """What two rings have in common, from its least corner on; None without an area."""
    for p, q in zip(other, other[1:] + other[:1]):
        one = one and cut_in_two(one, p, q)[0]
    return one and from_least(one)


def pushed(ring, share):
    """The ring, slid to the right by a share of its width."""
    xs = [flat(p)[0] for p in ring]
    return slid_by([ring], (max(xs) - min(xs)) * share, 0)[0]


class Common(SheetCase):
    def check(self, one, other):
        with self.subTest(one=one, other=other):
            told = self.asked(common, one, other)
            back = self.asked(common, other, one)
            if told is None:
                self.assertIsNone(back)
            else:
                self.assertBulge(told)
                self.assertSame(from_least(back), from_least(told))
            self.assertSame(told and from_least(told), plain_common(one, other))
            return told

    def test_told_ones(self):
        told = self.check(box(0, 0, 2, 2), box(1, 1, 3, 3))
        self.assertSame(from_least(told), box(1, 1, 2, 2))
        told = self.check(box(0, 0, 4, 4), LOZENGE)
        self.assertSame(from_least(told), from_least(LOZENGE))
        told = self.check(box(0, 0, 2, 4), LOZENGE)
        self.assertSame(from_least(told), from_least(ring_of((2, 0), (2, 4), (0, 2))))

    def test_apart(self):
        for other in (
            box(5, 5, 6, 6), box(5, 0, 6, 2), box(0, 3, 2, 4), wedge(9, -9, 1), box(-7, -7, -1, -1),
            ring_of((3, 0), (6, 0), (3, 30)), ring_of((4, 2), (2, 4), (4, 4)),
        ):
            self.assertIsNone(self.check(box(0, 0, 2, 2), other))

    def test_in_a_corner_or_along_a_side_alone(self):
        for other in (
            box(2, 2, 3, 3), box(-1, -1, 0, 0), box(2, 0, 3, 2), box(2, 1, 3, 5), box(0, 2, 2, 3), box(-1, -3, 1, 0),
            ring_of((2, 1), (4, 0), (4, 3)), ring_of((4, 0), (4, 4), (0, 4)), wedge(2, 0, 2),
        ):
            self.assertIsNone(self.check(box(0, 0, 2, 2), other))

    def test_one_within_the_other(self):
        self.assertSame(from_least(self.check(box(0, 0, 9, 9), wedge(1, 1, 2))), wedge(1, 1, 2))
        self.assertSame(from_least(self.check(box(0, 0, 9, 9), wedge(0, 0, 9))), wedge(0, 0, 9))
        for rng in numbers(20, "within"):
            ring = some_bulge(rng, 2)
            small = spread([ring], Fraction(1, 2), Fraction(1, 2))[0]
            x, y = flat(midst(ring))
            inner = slid_by([small], x / 2, y / 2)[0]
            self.assertSame(from_least(self.check(ring, inner)), from_least(inner))

    def test_the_same_twice(self):
        for rng in numbers(20, "twice"):
            ring = some_bulge(rng, rng.choice((1, 2, 12)))
            told = self.check(ring, from_corner(ring, 1))
            self.assertSame(from_least(told), from_least(ring))

    def test_many(self):
        for rng in numbers(150, "common"):
            figures = rng.choice((1, 1, 2))
            self.check(some_bulge(rng, figures), some_bulge(rng, figures))

    def test_many_corners(self):
        ring = hull([corner(x, x * x) for x in range(-8, 9)] + [corner(x, 140 - x * x) for x in range(-8, 9)])
        self.assertGreater(len(ring), 30)
        for other in (turned_round([ring])[0], pushed(ring, Fraction(1, 3)), pushed(ring, Fraction(-1, 2)), LOZENGE,
                      slid_by([ring], 3, 5)[0], slid_by(turned_round([ring]), 0, 140)[0]):
            self.check(ring, other)

    def test_twelve_figures(self):
        for rng in numbers(12, "common twelve"):
            one = some_bulge(rng, 12)
            self.check(one, pushed(one, Fraction(rng.randint(1, 10 ** 12), 10 ** 12)))
            self.check(one, some_bulge(rng, 12))

    def test_many_slivers(self):
        for rng in numbers(40, "slivers"):
            one = some_bulge(rng, 1)
            other = pushed(one, 1 - Fraction(1, 10 ** 9))
            self.check(one, other)
            self.check(one, pushed(one, 1))


class LaidOver(SheetCase):
    def check(self, sheet, other):
        with self.subTest(sheet=sheet, other=other):
            moves = self.asked(laid_over, sheet, other)
            self.assertIs(type(moves), list)
            for move in moves:
                self.assertMove(move)
            firsts = firsts_in(sheet, False) + firsts_in(sheet, True)
            other_firsts = firsts_in(other, False) + firsts_in(other, True)
            self.assertTrue(plain_parts([move[0] for move in moves], firsts))
            self.assertTrue(plain_parts([plain_led(move) for move in moves], other_firsts))
            for move in moves:
                self.check_move(move, sheet, other)
            return moves

    def check_move(self, move, sheet, other):
        """That a move leads, by way of where both sheets lie, from a piece of the one to one of the other."""
        p, after = midst(move[0]), midst(plain_led(move))
        ways = []
        for piece in sheet:
            if holds(plain_first(piece), p):
                here = plain_led(([p] * 3, piece[1], piece[2]))[0]
                for other_piece in other:
                    if holds(other_piece[0], here) and plain_first(([here] * 3,) + other_piece[1:])[0] == after:
                        ways.append(piece[1] is not other_piece[1])
        self.assertIn(move[1], ways)

    def test_none(self):
        self.assertSame(self.asked(laid_over, [], []), [])

    def test_one_piece_each(self):
        ring = box(0, 0, 2, 1)
        moves = self.check([(ring, False, (1, 0, 1))], [(ring, False, (0, 5, 1))])
        self.assertEqual({move[1:] for move in moves}, {(False, (1, -5, 1))})
        moves = self.check([(ring, True, (1, 0, 1))], [(ring, False, (0, 5, 1))])
        self.assertEqual({move[1:] for move in moves}, {(True, (1, -5, 1))})
        moves = self.check([(ring, False, (1, 0, 1))], [(ring, True, (0, 5, 1))])
        self.assertEqual({move[1:] for move in moves}, {(True, (-1, 5, 1))})
        moves = self.check([(ring, True, (1, 0, 1))], [(ring, True, (0, 5, 1))])
        self.assertEqual({move[1:] for move in moves}, {(False, (-1, 5, 1))})

    def test_cut_otherwise(self):
        upright = [fresh(box(k, 0, k + 1, 3)) for k in range(4)]
        level = [fresh(box(0, k, 4, k + 1)) for k in range(3)]
        moves = self.check(upright, level)
        self.assertEqual(len(moves), 24)
        self.assertEqual({move[1:] for move in moves}, {(False, STAYS)})
        self.check(upright, half_turned(half_turned(level)))

    def test_rings_that_touch_alone_make_no_moves(self):
        sheet = [fresh(wedge(0, 0, 2)), fresh(ring_of((2, 0), (2, 2), (0, 2)))]
        self.assertEqual(len(self.check(sheet, sheet[::-1])), 2)

    def test_fine_and_far(self):
        ring = ring_of((Fraction(1, 10 ** 20), 10 ** 15), (Fraction(2, 10 ** 20), 10 ** 15), (0, 10 ** 15 + 1))
        x, y = flat(midst(ring))
        parts = cut_in_two(ring, corner(x, y), ring[0])
        self.check([fresh(ring)], [fresh(part) for part in parts])

    def test_places_next_to_one_another(self):
        low, high = Fraction(1, 1000003), Fraction(1, 1000000)
        for sheet, other in (
            ([fresh(box(0, low, 2, high))], [fresh(box(0, low, 1, high)), fresh(box(1, low, 2, high))]),
            ([fresh(box(low, 0, high, 2))], [fresh(box(low, 0, high, 1)), fresh(box(low, 1, high, 2))]),
        ):
            self.assertEqual(len(self.check(sheet, other)), 4)
            self.assertEqual(len(self.check(other, sheet)), 4)

    def test_many(self):
        for rng in numbers(40, "laid over"):
            ring = some_bulge(rng, rng.choice((1, 1, 2)))
            self.check(in_pieces(rng, ring, rng.randrange(5)), in_pieces(rng, ring, rng.randrange(5)))

    def test_apart_from_one_another(self):
        for rng in numbers(10, "laid over apart"):
            rings = [some_bulge(rng), slid_by([some_bulge(rng)], 100, 3)[0], slid_by([some_bulge(rng)], 3, -100)[0]]
            sheet, other = ([piece for ring in rings for piece in in_pieces(rng, ring, 2)] for k in range(2))
            rng.shuffle(sheet)
            rng.shuffle(other)
            self.check(sheet, other)

    def test_areas(self):
        for rng in numbers(10, "laid over areas"):
            ring = some_bulge(rng, 2)
            moves = laid_over(in_pieces(rng, ring, 3), in_pieces(rng, ring, 3))
            self.assertEqual(plain_area([move[0] for move in moves]), plain_area([ring]))


if __name__ == "__main__":
    unittest.main()
