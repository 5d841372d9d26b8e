"""Rings, lists of corners, and cloths, lists of rings that have the cloth at their left hand."""

from slidecut.points import crossed, side, step_to
from slidecut.ratios import plus, ratio, times

MOST_RINGS = 8
MOST_CORNERS = 24


def sides_of(ring):
    """The sides of a ring, tuples of the corner where one begins and the one where it ends."""
    return list(zip(ring, ring[1:] + ring[:1]))


def ring_area(ring):
    """The area of a ring, above 0 where the inside is at the left hand."""
    twice = (0, 1)
    for p, q in sides_of(ring):
        twice = plus(twice, ratio(crossed(p, q)[2], p[2] * q[2]))
    return times(twice, (1, 2))


def area(cloth):
    """The area of a cloth, the sum of its rings'."""
    total = (0, 1)
    for ring in cloth:
        total = plus(total, ring_area(ring))
    return total


def lies_on(p, q, r):
    """Whether r lies on the side from p to q, in its ends too."""
    if side(p, q, r) != 0:
        return False
    back = step_to(r, p)
    onward = step_to(r, q)
    # On one line, these two steps go the same way just where r is beyond the side.
    return back[0] * onward[0] + back[1] * onward[1] <= 0


def touch(p, q, r, s):
    """Whether the side from p to q and the one from r to s have a point in common."""
    if lies_on(p, q, r) or lies_on(p, q, s) or lies_on(r, s, p) or lies_on(r, s, q):
        return True
    return side(p, q, r) * side(p, q, s) < 0 and side(r, s, p) * side(r, s, q) < 0


def runs_back(p, q, r):
    """Whether the side from q to r has more than q in common with the one from p to q."""
    return lies_on(p, q, r) or lies_on(q, r, p)


def clash(one, other, together):
    """Whether two sides, of one ring where together, have more in common than they may."""
    p, q = one
    r, s = other
    # No two corners of a ring are the same, so sides that share one follow one another.
    if together and q == r:
        return runs_back(p, q, s)
    if together and s == p:
        return runs_back(r, s, q)
    return touch(p, q, r, s)


def sides_are_apart(rings):
    """Whether no two sides of the rings clash."""
    seen = []
    for place, ring in enumerate(rings):
        for one in sides_of(ring):
            for elder_place, elder in seen:
                if clash(elder, one, elder_place == place):
                    return False
            seen.append((place, one))
    return True


def is_above(p, q):
    """Whether p lies higher than q."""
    return p[1] * q[2] > q[1] * p[2]


def within(ring, p):
    """Whether a point that is on no side of a ring lies within it."""
    inside = False
    for q, r in sides_of(ring):
        upward = is_above(r, p)
        # A corner level with p counts as below it, so that no side is met twice there.
        if is_above(q, p) != upward and side(q, r, p) == (1 if upward else -1):
            inside = not inside
    return inside


def is_inside(rings, p):
    """Whether the number of rings within which p lies is odd, where it is on no side of them."""
    return len([ring for ring in rings if within(ring, p)]) % 2 == 1


def rings_go_rightly(rings):
    """Whether each of some rings whose sides are apart has the cloth at its left hand."""
    for place, ring in enumerate(rings):
        # All corners of a ring lie within the same other ones, as no sides cross.
        is_hole = is_inside(rings[:place] + rings[place + 1:], ring[0])
        if (ring_area(ring)[0] < 0) != is_hole:
            return False
    return True


def is_cloth(rings):
    """Whether a list of lists of points is a cloth."""
    if len(rings) > MOST_RINGS or sum([len(ring) for ring in rings]) > MOST_CORNERS:
        return False
    for ring in rings:
        if len(ring) < 3 or len(set(ring)) < len(ring):
            return False
    return sides_are_apart(rings) and rings_go_rightly(rings)


def stands(cloth, p):
    """Where a point stands of a cloth: "side", "in" or "out"."""
    for ring in cloth:
        for q, r in sides_of(ring):
            if lies_on(q, r, p):
                return "side"
    return "in" if is_inside(cloth, p) else "out"
