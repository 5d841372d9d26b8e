"""Points 11 and 12: pieces and where they first lay; sheets cut, moved and turned half round."""

import unittest
from fractions import Fraction

from slidecut.sheets import cut_sheet, first_ring, fresh, half_turned, moved
from tests.helpers import MOST, flat, numbers, some_point
from tests.laying import (
    LOZENGE, STAYS, SheetCase, cut_in_two, plain_first, plain_parts, rings_in, some_piece, some_sheet,
)
from tests.shapes import box, corner, from_least, plain_area, ring_of, slid_by, some_bulge, turned_round, wedge


def plain_part(ring, p, q):
    """What of a ring lies at the left hand, seen from p to q, from its least corner on; None without an area."""
    part = cut_in_two(ring, p, q)[0]
    return part and from_least(part)


def from_least_each(sheet):
    """The sheet, each ring from its least corner on."""
    return [(from_least(ring), is_turned, step) for ring, is_turned, step in sheet]


class Fresh(SheetCase):
    def check(self, ring):
        with self.subTest(ring):
            told = self.asked(fresh, ring)
            self.assertSame(told, (list(ring), False, STAYS))
            self.assertSame(self.asked(first_ring, told), ring)

    def test_some(self):
        for ring in (wedge(0, 0, 3), box(-1, 2, Fraction(1, 3), 7), LOZENGE):
            self.check(ring)
        for rng in numbers(40, "fresh"):
            self.check(some_bulge(rng, rng.choice((1, 2, 30))))

    def test_a_ring_changed_behind_the_call(self):
        ring = wedge(0, 0, 3)
        piece = fresh(ring)
        ring.append(corner(9, 9))
        ring[0] = corner(-1, -1)
        self.assertSame(piece, (wedge(0, 0, 3), False, STAYS))
        self.assertSame(first_ring(piece), wedge(0, 0, 3))
        told = first_ring(piece)
        told.clear()
        self.assertSame(piece, (wedge(0, 0, 3), False, STAYS))
        self.assertSame(first_ring(piece), wedge(0, 0, 3))


class FirstRing(SheetCase):
    def test_told_ones(self):
        ring = wedge(0, 0, 1)
        for is_turned, step, due in (
            (False, (0, 0, 1), ring_of((0, 0), (1, 0), (0, 1))),
            (False, (5, -3, 1), ring_of((-5, 3), (-4, 3), (-5, 4))),
            (True, (0, 0, 1), ring_of((0, 0), (-1, 0), (0, -1))),
            (True, (5, -3, 1), ring_of((5, -3), (4, -3), (5, -4))),
            (True, (1, 1, 2), [(1, 1, 2), (-1, 1, 2), (1, -1, 2)]),
        ):
            with self.subTest(is_turned=is_turned, step=step):
                self.assertSame(self.asked(first_ring, (ring, is_turned, step)), due)

    def test_many(self):
        for rng in numbers(120, "first"):
            piece = some_piece(rng, rng.choice((1, 2, 30)))
            with self.subTest(piece):
                told = self.asked(first_ring, piece)
                self.assertSame(told, plain_first(piece))

    def test_moved_and_turned_several_times(self):
        for rng in numbers(60, "several"):
            ring = some_bulge(rng, 2)
            sheet = [fresh(ring)]
            spots = [flat(p) for p in ring]
            turns = 0
            for k in range(rng.randint(1, 9)):
                if rng.randrange(3):
                    step = some_point(rng) if rng.randrange(4) == 0 else corner(rng.randint(-9, 9), Fraction(k, 3))
                    sheet = moved(sheet, step)
                    spots = [(x + flat(step)[0], y + flat(step)[1]) for x, y in spots]
                else:
                    sheet = half_turned(sheet)
                    spots = [(-x, -y) for x, y in spots]
                    turns += 1
                with self.subTest(ring=ring, k=k):
                    self.assertPiece(sheet[0])
                    self.assertSame(sheet[0][0], ring_of(*spots))
                    self.assertSame(sheet[0][1], turns % 2 == 1)
                    self.assertSame(first_ring(sheet[0]), ring)


class CutSheet(SheetCase):
    def check(self, sheet, p, q):
        """Both sheets, against plain fractions; and with the line seen the other way."""
        with self.subTest(sheet=sheet, p=p, q=q):
            told = self.asked(cut_sheet, sheet, p, q)
            self.assertIs(type(told), tuple)
            self.assertEqual(len(told), 2)
            for part, one, other in ((told[0], p, q), (told[1], q, p)):
                self.assertIs(type(part), list)
                due = [(plain_part(ring, one, other), is_turned, step) for ring, is_turned, step in sheet]
                for piece in part:
                    self.assertPiece(piece)
                self.assertSame(from_least_each(part), [piece for piece in due if piece[0]])
            self.assertEqual(plain_area(rings_in(told[0] + told[1])), plain_area(rings_in(sheet)))
            self.check_whole_pieces(sheet, told, p, q)
            again = cut_sheet(sheet, q, p)
            for part, other_part in zip(told, again[::-1]):
                self.assertSame(from_least_each(part), from_least_each(other_part))

    def check_whole_pieces(self, sheet, told, p, q):
        """That a piece that the line does not cut is told from the same corner on."""
        for piece in sheet:
            left, right = plain_part(piece[0], p, q), plain_part(piece[0], q, p)
            if left is None or right is None:
                same = [other for other in told[0] + told[1] if other == piece]
                self.assertGreaterEqual(len(same), 1)
                self.assertSame(same[0], piece)

    def test_told_ones(self):
        sheet = [(LOZENGE, True, (5, 1, 2))]
        left, right = cut_sheet(sheet, (2, 0, 1), (2, 1, 1))
        self.assertSame(from_least_each(left), [(ring_of((0, 2), (2, 0), (2, 4)), True, (5, 1, 2))])
        self.assertSame(from_least_each(right), [(ring_of((2, 0), (4, 2), (2, 4)), True, (5, 1, 2))])
        left, right = cut_sheet([fresh(box(0, 0, 2, 2))], (0, 1, 1), (7, 1, 1))
        self.assertSame(from_least_each(left), [(box(0, 1, 2, 2), False, STAYS)])
        self.assertSame(from_least_each(right), [(box(0, 0, 2, 1), False, STAYS)])

    def test_no_pieces(self):
        self.assertSame(self.asked(cut_sheet, [], (0, 0, 1), (1, 0, 1)), ([], []))

    def test_lines_that_miss_a_piece(self):
        piece = (LOZENGE, False, STAYS)
        self.assertSame(cut_sheet([piece], (0, -1, 1), (1, -1, 1)), ([piece], []))
        self.assertSame(cut_sheet([piece], (1, -1, 1), (0, -1, 1)), ([], [piece]))
        self.assertSame(cut_sheet([piece], (5, 0, 1), (5, 1, 1)), ([piece], []))
        self.assertSame(cut_sheet([piece], (0, -9, 1), (1, -7, 1)), ([piece], []))

    def test_lines_that_touch_a_corner(self):
        piece = (LOZENGE, True, (1, 0, 3))
        self.assertSame(cut_sheet([piece], (0, 0, 1), (1, 0, 1)), ([piece], []))
        self.assertSame(cut_sheet([piece], (1, 0, 1), (0, 0, 1)), ([], [piece]))
        self.assertSame(cut_sheet([piece], (0, 2, 1), (1, 5, 1)), ([], [piece]))
        self.assertSame(cut_sheet([piece], (4, 2, 1), (4, 3, 1)), ([piece], []))

    def test_lines_along_a_side(self):
        for ring in (LOZENGE, box(0, 0, 3, 1), wedge(-1, -1, 5)):
            piece = (ring, False, (7, 7, 2))
            for k in range(len(ring)):
                p, q = ring[k - 1], ring[k]
                with self.subTest(p=p, q=q):
                    self.assertSame(cut_sheet([piece], p, q), ([piece], []))
                    self.assertSame(cut_sheet([piece], q, p), ([], [piece]))

    def test_all_lines_through_some_points(self):
        spots = [corner(x, y) for x in (0, 1, 2, 4) for y in (-1, 0, 2, Fraction(5, 2), 4)]
        sheet = [(LOZENGE, True, (1, 2, 3)), (box(0, 0, 2, 4), False, STAYS), (wedge(1, 0, 3), True, STAYS)]
        for p in spots:
            for q in spots:
                if p != q:
                    self.check(sheet, p, q)

    def test_through_corners(self):
        for rng in numbers(60, "corners"):
            sheet = some_sheet(rng, rng.choice((1, 2))) + [some_piece(rng)]
            ring = rng.choice(sheet)[0]
            p, q = rng.sample(ring, 2)
            self.check(sheet, p, q)
            away = corner(flat(p)[0] + rng.randint(1, 9), flat(p)[1] + rng.randint(-9, 9))
            self.check(sheet, p, away)

    def test_many(self):
        for rng in numbers(120, "cut"):
            p = corner(rng.randint(-5, 5), Fraction(rng.randint(-9, 9), 4))
            q = corner(Fraction(rng.randint(-9, 9), 7), 6)
            self.check(some_sheet(rng, rng.choice((1, 2))), p, q)

    def test_thirty_figures(self):
        for rng in numbers(20, "cut thirty"):
            sheet = some_sheet(rng, 30)
            far = 10 ** 15
            p = corner(rng.randint(-far, far), Fraction(rng.randint(-MOST, MOST), far))
            q = corner(Fraction(1, MOST), rng.randint(1, MOST))
            self.check(sheet, p, q)

    def test_cut_again_and_again(self):
        for rng in numbers(12, "again"):
            ring = some_bulge(rng, 1)
            sheets = [[fresh(ring)]]
            for k in range(4):
                p, q = corner(rng.randint(-3, 3), k), corner(Fraction(rng.randint(-9, 9), 5), 9)
                parts = [part for sheet in sheets for part in cut_sheet(sheet, p, q)]
                step = corner(rng.randint(-2, 2), Fraction(1, 2))
                sheets = [moved(part, step) if rng.randrange(3) else half_turned(part) for part in parts]
            pieces = [piece for sheet in sheets for piece in sheet]
            with self.subTest(ring):
                for piece in pieces:
                    self.assertPiece(piece)
                    self.assertSame(first_ring(piece), plain_first(piece))
                firsts = [first_ring(piece) for piece in pieces]
                self.assertEqual(plain_area(firsts), plain_area([ring]))
                self.assertTrue(plain_parts(firsts, [ring]))
                self.assertEachAlone(firsts, ring)


class Moved(SheetCase):
    def test_told_ones(self):
        sheet = [(wedge(0, 0, 1), False, (0, 0, 1)), (wedge(5, 5, 1), True, (1, 1, 2))]
        self.assertSame(
            self.asked(moved, sheet, (1, -1, 2)),
            [
                ([(1, -1, 2), (3, -1, 2), (1, 1, 2)], False, (1, -1, 2)),
                ([(11, 9, 2), (13, 9, 2), (11, 11, 2)], True, (1, 0, 1)),
            ],
        )
        self.assertSame(self.asked(moved, [], (1, -1, 2)), [])

    def test_many(self):
        for rng in numbers(80, "moved"):
            sheet, step = some_sheet(rng, rng.choice((1, 2, 30))), some_point(rng)
            right, up = flat(step)
            with self.subTest(sheet=sheet, step=step):
                told = self.asked(moved, sheet, step)
                due = []
                for ring, is_turned, elder in sheet:
                    x, y = flat(elder)
                    due.append((slid_by([ring], right, up)[0], is_turned, corner(x + right, y + up)))
                self.assertSame(told, due)
                self.assertSame([first_ring(piece) for piece in told], [plain_first(piece) for piece in sheet])

    def test_by_nothing_it_stays(self):
        for rng in numbers(10, "stays"):
            sheet = some_sheet(rng)
            self.assertSame(moved(sheet, STAYS), sheet)


class HalfTurned(SheetCase):
    def test_told_ones(self):
        sheet = [(wedge(0, 0, 1), False, (0, 0, 1)), (wedge(5, 5, 1), True, (1, -1, 2))]
        self.assertSame(
            self.asked(half_turned, sheet),
            [
                ([(0, 0, 1), (-1, 0, 1), (0, -1, 1)], True, (0, 0, 1)),
                ([(-5, -5, 1), (-6, -5, 1), (-5, -6, 1)], False, (-1, 1, 2)),
            ],
        )
        self.assertSame(self.asked(half_turned, []), [])

    def test_many(self):
        for rng in numbers(80, "half"):
            sheet = some_sheet(rng, rng.choice((1, 2, 30)))
            with self.subTest(sheet):
                told = self.asked(half_turned, sheet)
                self.assertSame([piece[0] for piece in told], turned_round([piece[0] for piece in sheet]))
                self.assertSame([piece[1] for piece in told], [not piece[1] for piece in sheet])
                for piece in told:
                    self.assertPiece(piece)
                self.assertSame([first_ring(piece) for piece in told], [plain_first(piece) for piece in sheet])
                self.assertSame(half_turned(told), sheet)


if __name__ == "__main__":
    unittest.main()
