"""Pieces and sheets for the tests: how they lie, and where they first lay, by Python's own fractions."""

from fractions import Fraction

from tests.helpers import KindCase, flat, some_point
from tests.shapes import (
    corner, plain_area, plain_box, plain_corner, plain_sides, ring_of, slid_by, some_bulge, turn, turned_round,
)

STAYS = (0, 0, 1)
LOZENGE = ring_of((2, 0), (4, 2), (2, 4), (0, 2))


def some_step(rng):
    return corner(rng.randint(-9, 9), Fraction(rng.randint(-9, 9), 4))


def some_piece(rng, figures=1):
    """A piece that lies somewhere, turned or not, and came by some step."""
    step = some_point(rng) if figures == 30 else some_step(rng)
    return (some_bulge(rng, figures), bool(rng.randrange(2)), step)


def some_sheet(rng, figures=1):
    return [some_piece(rng, figures) for k in range(rng.randrange(6))]


def plain_first(piece):
    """Where a piece first lay."""
    ring, is_turned, step = piece
    right, up = flat(step)
    first = slid_by([ring], -right, -up)
    return (turned_round(first) if is_turned else first)[0]


def plain_led(move):
    """Where a move leads its ring."""
    ring, is_turned, step = move
    right, up = flat(step)
    return slid_by(turned_round([ring]) if is_turned else [ring], right, up)[0]


def cut_in_two(ring, p, q):
    """What of a ring lies at the left and at the right hand, seen from p to q; None without an area."""
    (x, y), (u, v) = flat(p), flat(q)
    told = []
    for hand in (1, -1):
        part = []
        for one, other in plain_sides(ring):
            ahead, after = (hand * turn((s - x, t - y), (u - x, v - y)) for s, t in (one, other))
            if ahead >= 0:
                part.append(one)
            if ahead * after < 0:
                share = ahead / (ahead - after)
                part.append((one[0] + (other[0] - one[0]) * share, one[1] + (other[1] - one[1]) * share))
        has_area = len(part) > 2 and plain_area([ring_of(*part)]) > 0
        told.append(ring_of(*part) if has_area else None)
    return tuple(told)


def in_pieces(rng, ring, lines):
    """A sheet that lies as a ring, cut by some lines; each piece turned or not, and come by some step."""
    rings = [ring]
    spots = [flat(p) for p in ring]
    for k in range(lines):
        parts = [Fraction(rng.randint(1, 5)) for spot in spots]
        x, y = (sum(part * spot[way] for part, spot in zip(parts, spots)) / sum(parts) for way in (0, 1))
        beyond = (x + rng.randint(-3, 3), y + Fraction(rng.randint(1, 9), 4))
        s, t = rng.choice(spots) if rng.randrange(3) == 0 else beyond
        if (s, t) != (x, y):
            rings = [part for one in rings for part in cut_in_two(one, corner(x, y), corner(s, t)) if part]
    return [(one, bool(rng.randrange(2)), some_step(rng)) for one in rings]


def line_and_ends(one):
    """The line of a side, and the point where it begins and the one where it ends."""
    (x, y), (u, v) = one
    if x == u:
        return ("upright", x), one
    slope = (v - y) / (u - x)
    return (slope, y - slope * x), one


def plain_parts(rings, others):
    """Whether some rings cover each point as often as some others do, all with the inside at the left hand.

    So it is just where on each line as much is gone ahead as back, if the others are gone the other way.
    """
    counts = {}
    for share, some in ((1, rings), (-1, others)):
        for ring in some:
            for one in plain_sides(ring):
                line, (begin, end) = line_and_ends(one)
                counts[line, begin] = counts.get((line, begin), 0) + share
                counts[line, end] = counts.get((line, end), 0) - share
    return not any(counts.values())


def holds(ring, p):
    """Whether a ring that bulges nowhere inward holds a point, its sides not counted."""
    s, t = flat(p)
    return all(turn((s - x, t - y), (u - x, v - y)) > 0 for (x, y), (u, v) in plain_sides(ring))


def midst(ring):
    """A point within a ring that bulges nowhere inward."""
    spots = [flat(p) for p in ring[:3]]
    return corner(*(sum(spot[way] for spot in spots) / 3 for way in (0, 1)))


def rings_in(sheet):
    """The rings where the pieces of a sheet lie now."""
    return [piece[0] for piece in sheet]


def firsts_in(sheet, is_turned):
    """Where the pieces of a sheet that are turned, or those that are not, first lay."""
    return [plain_first(piece) for piece in sheet if piece[1] is is_turned]


def some_size(rng, figures=1):
    most = 10 ** figures - 1
    return Fraction(rng.randint(1, most), rng.randint(1, most))


def pieces_of(things):
    """All pieces of some tuples that end with a sheet."""
    return [piece for thing in things for piece in thing[-1]]


class SheetCase(KindCase):
    def assertBulge(self, ring):
        """That this ring goes once round, each corner at the left hand of each side but its own."""
        self.assertIs(type(ring), list)
        self.assertGreaterEqual(len(ring), 3)
        for p in ring:
            self.assertPoint(p)
        spots = [flat(p) for p in ring]
        for (x, y), (u, v) in plain_sides(ring):
            for s, t in spots:
                if (s, t) not in ((x, y), (u, v)):
                    self.assertGreater(turn((s - x, t - y), (u - x, v - y)), 0, ring)

    def assertPiece(self, piece):
        """That this is a piece."""
        self.assertIs(type(piece), tuple)
        ring, is_turned, step = piece
        self.assertIs(type(is_turned), bool)
        self.assertPoint(step)
        self.assertBulge(ring)

    def assertLies(self, sheet, ring):
        """That this is a sheet that lies as a ring, without a gap, none on another."""
        self.assertIs(type(sheet), list)
        for piece in sheet:
            self.assertPiece(piece)
        self.assertEqual(plain_area(rings_in(sheet)), plain_area([ring]))
        self.assertTrue(plain_parts(rings_in(sheet), [ring]), (sheet, ring))

    def assertCutOf(self, told, handed):
        """That the pieces of a sheet are those of another one, cut, none turned further, and no others."""
        for is_turned in (True, False):
            self.assertTrue(plain_parts(firsts_in(told, is_turned), firsts_in(handed, is_turned)), (told, handed))

    def assertEachAlone(self, rings, holder):
        """That each ring has its midst to itself, within another ring."""
        for ring in rings:
            p = midst(ring)
            self.assertEqual(sum(holds(other, p) for other in rings), 1, ring)
            self.assertTrue(holds(holder, p), ring)

    def assertMove(self, move):
        """That this is a move: a ring of three corners with an area, the inside at the left hand."""
        self.assertPiece(move)
        self.assertEqual(len(move[0]), 3)

    def assertSize(self, size):
        self.assertRatio(size)
        self.assertGreater(size[0], 0)

    def assertBox(self, box):
        """That this is a box whose sheet lies as its ring."""
        self.assertIs(type(box), tuple)
        wide, high, sheet = box
        self.assertSize(wide)
        self.assertSize(high)
        self.assertLies(sheet, plain_box(Fraction(*wide), Fraction(*high)))

    def assertBoxes(self, boxes):
        self.assertIs(type(boxes), list)
        for box in boxes:
            self.assertBox(box)

    def assertCorner(self, slope, hand, wide, sheet):
        self.assertSize(wide)
        self.assertLies(sheet, plain_corner(slope, hand, Fraction(*wide)))
