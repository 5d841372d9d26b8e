"""Plans for the tests: held against the two cloths by areas, by sides and by points."""

from fractions import Fraction

from slidecut.checks import is_plan
from tests.helpers import flat
from tests.laying import SheetCase, cut_in_two, holds, midst, plain_led, plain_parts
from tests.shapes import box, corner, plain_area, plain_stands, ring_of, slid_by, some_bulge

LEANING_BOX = [ring_of((0, 0), (3, 4), (3, 6), (0, 2))]
FLAT_LEANING_BOX = [ring_of((0, 0), (2, 0), (7, 3), (5, 3))]
STAIRS = [ring_of((0, 0), (3, 0), (3, 3), (2, 3), (2, 2), (1, 2), (1, 1), (0, 1))]
SIX_SIDED = [ring_of((1, 0), (3, 0), (4, 2), (3, 4), (1, 4), (0, 2))]


def box_of_area(size, wide=1):
    """A cloth of one box of an area and a width."""
    return [box(0, 0, wide, Fraction(size) / wide)]


def bounds(rings):
    """The least and the greatest places of some rings."""
    spots = [flat(p) for ring in rings for p in ring]
    return [(min(spot[way] for spot in spots), max(spot[way] for spot in spots)) for way in (0, 1)]


def some_spots(rng, rings, many):
    """Points about some rings."""
    spread = bounds(rings)
    told = []
    for k in range(many):
        shares = [Fraction(rng.randint(-100, 1100), 997) for way in (0, 1)]
        told.append(corner(*(low + (high - low) * share for (low, high), share in zip(spread, shares))))
    return told


def apart(rng, rings):
    """The rings slid to lie apart, side by side."""
    far = Fraction(0)
    told = []
    for ring in rings:
        (left, right), heights = bounds([ring])
        told.append(slid_by([ring], far - left, Fraction(rng.randint(-9, 9), rng.randint(1, 9)))[0])
        far += right - left + Fraction(1, rng.randint(1, 9))
    return told


def cut_apart(rng, figures=1):
    """A cloth of one ring, and one of its parts, cut by some lines, slid apart."""
    whole = some_bulge(rng, figures)
    rings = [whole]
    x, y = flat(midst(whole))
    for k in range(rng.randint(1, 3)):
        beyond = corner(x + rng.randint(-5, 5), y + rng.choice((-3, -1, Fraction(1, 2), 2, 7)))
        parts = [part for ring in rings for part in cut_in_two(ring, corner(x, y), beyond) if part]
        if len(parts) <= 8 and sum(map(len, parts)) <= 24:
            rings = parts
    return [whole], apart(rng, rings)


def goes(moves, p):
    """Where the moves lead a point that is on no side of theirs, and whether it is turned; a list of all ways."""
    told = []
    for ring, is_turned, step in moves:
        if holds(ring, p):
            told.append((plain_led(([p] * 3, is_turned, step))[0], is_turned))
    return told


def by_hand(*moves):
    """A list of moves, each a ring, a step to the right and up, and perhaps a truth."""
    return [(ring, bool(rest), corner(right, up)) for ring, right, up, *rest in moves]


def halves(x, y, u, v):
    """The two rings of three corners of a box."""
    return [ring_of((x, y), (u, y), (u, v)), ring_of((x, y), (u, v), (x, v))]


class PlanCase(SheetCase):
    def assertPlan(self, one, other, moves, turning, rng=None):
        """That these moves are a plan; with a source of numbers also by some points."""
        self.assertIs(type(moves), list)
        for move in moves:
            self.assertMove(move)
            if not turning:
                self.assertIs(move[1], False)
        rings, led_rings = [move[0] for move in moves], [plain_led(move) for move in moves]
        for some, cloth in ((rings, one), (led_rings, other)):
            self.assertEqual(plain_area(some), plain_area(cloth))
            self.assertTrue(plain_parts(some, cloth))
            if rng and cloth:
                self.check_spots(some, cloth, some_spots(rng, cloth, 6))
        self.assertIs(is_plan(one, other, moves, turning), True)

    def check_spots(self, rings, cloth, spots):
        """That a point in the cloth is in one of the rings alone, one out of it in none."""
        for p in spots:
            many = sum(holds(ring, p) for ring in rings)
            place = plain_stands(cloth, p)
            self.assertIn(many, {"in": (0, 1), "out": (0,), "side": (0,)}[place])
            if place == "in" and many == 0:
                self.assertTrue(any(plain_stands([ring], p) == "side" for ring in rings))
