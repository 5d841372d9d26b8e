"""Slabs: tuples (low left, low right, high right, high left) between two upright lines."""

from slidecut.cloths import sides_of
from slidecut.points import at, meet, side, x_of
from slidecut.ratios import under


def slab_ring(slab):
    """The ring of a slab, without a high corner that is the same as its low one."""
    low_left, low_right, high_right, high_left = slab
    ring = [low_left, low_right]
    if high_right != low_right:
        ring.append(high_right)
    if high_left != low_left:
        ring.append(high_left)
    return ring


def places_of(cloth):
    """The places from left to right of all corners, each once, from the left on."""
    places = sorted({x_of(corner) for ring in cloth for corner in ring})
    # Tuples are not ordered as ratios are: each goes to where so many are under it.
    return sorted(places, key=lambda place: len([one for one in places if under(one, place)]))


def leaning_sides(cloth):
    """The sides that are not upright, tuples of their left end and their right end."""
    sides = []
    for ring in cloth:
        for p, q in sides_of(ring):
            if under(x_of(p), x_of(q)):
                sides.append((p, q))
            elif under(x_of(q), x_of(p)):
                sides.append((q, p))
    return sides


def point_above(p, q, place):
    """The point of the line through p and q, which is not upright, at a place from left to right."""
    return meet(p, q, at(place, (0, 1)), at(place, (1, 1)))


def is_below(one, other):
    """Whether one span lies below another one, perhaps with one end in common."""
    p, q = one
    return 1 in (side(p, q, other[0]), side(p, q, other[1]))


def spans_between(sides, left, right):
    """What the sides have between two neighbouring places, tuples (left end, right end), from below up."""
    spans = []
    for p, q in sides:
        if not under(left, x_of(p)) and not under(x_of(q), right):
            spans.append((point_above(p, q, left), point_above(p, q, right)))
    return sorted(spans, key=lambda span: len([one for one in spans if is_below(one, span)]))


def slabs(cloth):
    """The slabs into which a cloth is parted, from left to right, then from below up."""
    told = []
    sides = leaning_sides(cloth)
    places = places_of(cloth)
    for left, right in zip(places, places[1:]):
        spans = spans_between(sides, left, right)
        # From below up, the cloth begins and ends at them by turns.
        for low, high in zip(spans[0::2], spans[1::2]):
            told.append((low[0], low[1], high[1], high[0]))
    return told
