"""Rings and cloths for the tests, and plain geometry over Python's own fractions to hold answers against."""

from fractions import Fraction
from math import atan2, gcd

from tests.helpers import flat, placed


def corner(x, y):
    """The point of two whole numbers or Fractions."""
    return placed(Fraction(x), Fraction(y))


def ring_of(*pairs):
    """The ring of some pairs of numbers."""
    return [corner(x, y) for x, y in pairs]


def box(x, y, u, v):
    """The ring of a box from (x, y) to (u, v), the inside at the left hand."""
    return ring_of((x, y), (u, y), (u, v), (x, v))


def wedge(x, y, size):
    """The ring of a three-cornered cloth with its right angle in (x, y)."""
    return ring_of((x, y), (x + size, y), (x, y + size))


def around(size):
    """A three-cornered ring round (0, 0)."""
    return ring_of((-2 * size, -size), (2 * size, -size), (0, 2 * size))


def back(ring):
    """The ring gone round the other way."""
    return ring[::-1]


def from_corner(ring, many):
    """The ring told from another corner on."""
    return ring[many:] + ring[:many]


def led(rings, lead):
    """The rings, each corner led by a deed of two Fractions."""
    return [[corner(*lead(*flat(p))) for p in ring] for ring in rings]


def slid_by(rings, right, up):
    return led(rings, lambda x, y: (x + right, y + up))


def turned_round(rings):
    return led(rings, lambda x, y: (-x, -y))


def tilted_by(rings, tilt):
    return led(rings, lambda x, y: (x, y + x * tilt))


def spread(rings, wide, high):
    """The rings, their places to the right and up multiplied by numbers above 0."""
    return led(rings, lambda x, y: (x * wide, y * high))


COMB = ring_of((0, 0), (7, 0), (7, 3), (6, 1), (5, 3), (4, 1), (3, 3), (2, 1), (1, 3))
SPIRAL = ring_of(
    (0, 0), (9, 0), (9, 9), (2, 9), (2, 4), (6, 4), (6, 6), (4, 6), (4, 7), (7, 7), (7, 2), (1, 2), (1, 10), (0, 10)
)

CLOTHS = {
    "none": [],
    "box": [box(0, 0, 3, 2)],
    "wedge": [wedge(0, 0, 4)],
    "bent": [ring_of((0, 0), (4, 0), (4, 1), (1, 1), (1, 3), (0, 3))],
    "comb": [COMB],
    "spiral": [SPIRAL],
    "arrow": [ring_of((0, 0), (5, -3), (2, 0), (5, 3))],
    "corners on one line": [ring_of((0, 0), (1, 0), (2, 0), (3, 0), (3, 1), (3, 2), (1, 2), (0, 2), (0, 1))],
    "fine": [ring_of((Fraction(1, 3), Fraction(-1, 7)), (Fraction(5, 2), Fraction(1, 9)), (1, Fraction(11, 4)))],
    "frame": [box(0, 0, 6, 6), back(box(2, 2, 4, 5))],
    "frame, hole first": [back(box(2, 2, 4, 5)), box(0, 0, 6, 6)],
    "leaning hole": [box(-3, -3, 3, 3), back(around(1))],
    "island": [box(0, 0, 9, 9), back(box(1, 1, 8, 8)), wedge(3, 3, 2)],
    "island first": [wedge(3, 3, 2), back(box(1, 1, 8, 8)), box(0, 0, 9, 9)],
    "two holes": [box(0, 0, 9, 4), back(wedge(1, 1, 2)), back(box(5, 1, 8, 3))],
    "two apart": [box(0, 0, 1, 1), wedge(2, 5, 3)],
    "one above another": [box(0, 0, 4, 1), wedge(0, 2, 4), box(1, 7, 2, 8)],
    "eight by turns": [back(around(k)) if k % 2 else around(k) for k in (8, 7, 6, 5, 4, 3, 2, 1)],
    "eight apart": [wedge(9 * k, k * k % 7, k + 1) for k in range(8)],
    "twenty-four": [ring_of(*((k, k * k) for k in range(-12, 12)))],
}

WAYS = sorted(
    ((c, d) for c in range(-9, 10) for d in range(-9, 10) if gcd(c, d) == 1), key=lambda way: atan2(way[1], way[0])
)


def star(rng, many, figures=1):
    """A simple ring of so many corners (four at least) round (0, 0), the inside at the left hand."""
    # One way of each quarter is among them, so no two neighbours are half a turn or more apart.
    quarters = [[way for way in WAYS if turn(way, first) >= 0 > turn(way, after)] for first, after in (
        ((1, 0), (0, 1)), ((0, 1), (-1, 0)), ((-1, 0), (0, -1)), ((0, -1), (1, 0))
    )]
    ways = [rng.choice(quarter) for quarter in quarters]
    others = [way for way in WAYS if way not in ways]
    ways += rng.sample(others, many - 4)
    ring = []
    for c, d in sorted(ways, key=lambda way: atan2(way[1], way[0])):
        least, most = 10 ** (figures - 1), 10 ** figures
        size = Fraction(rng.randint(least, most), rng.randint(least, most))
        ring.append(corner(c * size, d * size))
    return from_corner(ring, rng.randrange(many))


def turn(way, first):
    """Above 0 where a way is at the left hand of a first one, less than half a turn on."""
    return first[0] * way[1] - first[1] * way[0]


def some_cloth(rng, figures=1):
    """A cloth of one to eight rings: rings within rings, perhaps with others aside of them."""
    many = rng.choice((1, 1, 1, 2, 2, 3, 4))
    rings = []
    outer = star(rng, rng.randint(4, 24 // many), figures)
    for depth in range(many):
        inner = outer if rng.randrange(2) else star(rng, rng.randint(4, 24 // many), figures)
        small = Fraction(1, 1) if depth == 0 else shrink(rings[-1], inner)
        ring = led([inner], lambda x, y: (x * small, y * small))[0]
        rings.append(back(ring) if depth % 2 else ring)
    left = 24 - sum(len(ring) for ring in rings)
    if left >= 3 and rng.randrange(2):
        far = max(flat(p)[0] for ring in rings for p in ring)
        rings.append(wedge(far + 1, rng.randint(-9, 9), Fraction(rng.randint(1, 9), rng.randint(1, 9))))
    rng.shuffle(rings)
    return slid_by(rings, rng.randint(-9, 9), Fraction(rng.randint(-9, 9), 7))


def shrink(outer, inner):
    """By how much a ring round (0, 0) is to be made smaller, so as to lie within another one."""
    # The other one holds each diamond round (0, 0) that is less wide than this.
    least = min(abs(turn(p, q)) / (abs(q[0] - p[0]) + abs(q[1] - p[1])) for p, q in plain_sides(outer))
    most = max(abs(flat(p)[0]) + abs(flat(p)[1]) for p in inner)
    return least / most / 2


def plain_sides(ring):
    """The sides of a ring as pairs of pairs of Fractions."""
    corners = [flat(p) for p in ring]
    return [(corners[k], corners[(k + 1) % len(corners)]) for k in range(len(corners))]


def plain_area(rings):
    """The area, by what lies between the sides and the level line through (0, 0)."""
    total = Fraction(0)
    for ring in rings:
        for (x, y), (u, v) in plain_sides(ring):
            total += (x - u) * (y + v) / 2
    return total


def shared(one, other):
    """What two sides have in common, as its two ends, which may be the same point; None where nothing."""
    (x, y), (u, v) = one
    (s, t), (w, z) = other
    way, other_way, between = (u - x, v - y), (w - s, z - t), (s - x, t - y)
    square = way[0] ** 2 + way[1] ** 2
    slope = turn(other_way, way)
    if slope:
        part, other_part = turn(other_way, between) / slope, turn(way, between) / slope
        low = high = part
        meets = 0 <= part <= 1 and 0 <= other_part <= 1
    else:
        ends = [((p - x) * way[0] + (q - y) * way[1]) / square for p, q in other]
        low, high = max(0, min(ends)), min(1, max(ends))
        meets = turn(between, way) == 0 and low <= high
    if not meets:
        return None
    return tuple((x + way[0] * part, y + way[1] * part) for part in (low, high))


def plain_within(ring, p):
    """Whether a point lies within a ring: whether an odd number of sides lies straight above it."""
    x, y = flat(p)
    above = 0
    for (s, t), (u, v) in plain_sides(ring):
        if (s <= x) != (u <= x) and t + (v - t) * (x - s) / (u - s) > y:
            above += 1
    return above % 2 == 1


def plain_stands(cloth, p):
    """Where a point stands of a cloth."""
    s, t = flat(p)
    for ring in cloth:
        for (x, y), (u, v) in plain_sides(ring):
            if turn((s - x, t - y), (u - x, v - y)) == 0 and (x - s) * (u - s) + (y - t) * (v - t) <= 0:
                return "side"
    return "in" if sum(plain_within(ring, p) for ring in cloth) % 2 else "out"


def plain_is_cloth(rings):
    """Whether these rings are a cloth, side by side."""
    if len(rings) > 8 or sum(map(len, rings)) > 24:
        return False
    if any(len(ring) < 3 or len(set(ring)) < len(ring) for ring in rings):
        return False
    sides = [(k, j, one) for k, ring in enumerate(rings) for j, one in enumerate(plain_sides(ring))]
    for k, j, one in sides:
        for m, n, other in sides:
            if (k, j) < (m, n):
                follows = k == m and (n == j + 1 or (j == 0 and n == len(rings[k]) - 1))
                due = None
                if follows:
                    point = one[1] if n == j + 1 else one[0]
                    due = (point, point)
                if shared(one, other) != due:
                    return False
    for ring in rings:
        deep = sum(plain_within(other, ring[0]) for other in rings if other is not ring)
        if (plain_area([ring]) > 0) != (deep % 2 == 0):
            return False
    return True


def hull(points):
    """The ring that bulges nowhere inward round some points, no three corners on one line, the inside at the left."""
    spots = sorted({flat(p) for p in points})

    def chain(walk):
        kept = []
        for x, y in walk:
            while len(kept) > 1 and turn((x - kept[-2][0], y - kept[-2][1]),
                                         (kept[-1][0] - kept[-2][0], kept[-1][1] - kept[-2][1])) <= 0:
                kept.pop()
            kept.append((x, y))
        return kept[:-1]

    return ring_of(*chain(spots), *chain(spots[::-1]))


def some_bulge(rng, figures=1):
    """A ring of three corners or more that bulges nowhere inward, told from any corner on."""
    while True:
        most = 10 ** figures
        spots = [
            corner(Fraction(rng.randint(-most, most), rng.randint(1, most)), Fraction(rng.randint(-most, most), 1 + k))
            for k in range(rng.randint(3, 10))
        ]
        ring = hull(spots)
        if len(ring) > 2:
            return from_corner(ring, rng.randrange(len(ring)))


def from_least(ring):
    """The ring told from its least corner on, so that rings alike are the same list."""
    return from_corner(ring, ring.index(min(ring)))


def plain_box(wide, high):
    """The ring of a box of a width and a height, from (0, 0) on."""
    return box(0, 0, wide, high)


def plain_corner(slope, hand, wide):
    """The ring of a corner piece, of Fractions."""
    high = wide * abs(slope)
    corners = {
        (True, "low"): ((0, 0), (wide, 0), (wide, high)),
        (True, "high"): ((0, 0), (wide, high), (0, high)),
        (False, "low"): ((0, 0), (wide, 0), (0, high)),
        (False, "high"): ((0, high), (wide, 0), (wide, high)),
    }
    return ring_of(*corners[slope > 0, hand])
