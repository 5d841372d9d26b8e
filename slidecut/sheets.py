"""Sheets: lists of pieces, tuples (ring, turned, step) that keep where they first lay.

A piece first lay so that each point of it, turned half round where turned is True and then
slid by step, lies where it lies now.
"""

from slidecut.points import at, crossed, hand_of, meet, slid, turned
from slidecut.ratios import times


def fresh(ring):
    """The piece of a ring that lies where it first lay."""
    return (list(ring), False, (0, 0, 1))


def first_ring(piece):
    """The ring where a piece first lay, corner by corner."""
    ring, is_turned, step = piece
    # A step turned half round leads back.
    back = turned(step)
    corners = [slid(corner, back) for corner in ring]
    if is_turned:
        return [turned(corner) for corner in corners]
    return corners


def cut_ring(ring, p, q):
    """What of a ring lies at the left and at the right hand, seen from p to q: two rings, [] without an area."""
    line = crossed(p, q)
    hands = [hand_of(line, corner) for corner in ring]
    left = []
    right = []
    for place, corner in enumerate(ring):
        if hands[place] >= 0:
            left.append(corner)
        if hands[place] <= 0:
            right.append(corner)
        after = (place + 1) % len(ring)
        if hands[place] * hands[after] < 0:
            between = meet(p, q, corner, ring[after])
            left.append(between)
            right.append(between)
    # A ring that bulges nowhere inward has an area at a hand just where it has a corner there.
    return (left if 1 in hands else [], right if -1 in hands else [])


def cut_sheet(sheet, p, q):
    """The two sheets of what lies at the left and at the right hand, seen from p to q."""
    left = []
    right = []
    for ring, is_turned, step in sheet:
        left_ring, right_ring = cut_ring(ring, p, q)
        if left_ring:
            left.append((left_ring, is_turned, step))
        if right_ring:
            right.append((right_ring, is_turned, step))
    return (left, right)


def cut_upright(sheet, place):
    """The two sheets of what lies at the left and at the right of a place from left to right, a ratio."""
    return cut_sheet(sheet, at(place, (0, 1)), at(place, (1, 1)))


def cut_level(sheet, height):
    """The two sheets of what lies below a height, a ratio, and above it."""
    above, below = cut_sheet(sheet, at((0, 1), height), at((1, 1), height))
    return (below, above)


def copied(sheet):
    """The sheet as it is, in lists of its own."""
    return [(list(ring), is_turned, step) for ring, is_turned, step in sheet]


def moved(sheet, step):
    """The sheet, each piece further on by a step."""
    return [
        ([slid(corner, step) for corner in ring], is_turned, slid(elder_step, step))
        for ring, is_turned, elder_step in sheet
    ]


def half_turned(sheet):
    """The sheet turned half round about (0, 0, 1)."""
    return [
        ([turned(corner) for corner in ring], not is_turned, turned(step))
        for ring, is_turned, step in sheet
    ]


def slices(sheet, cut, size, first, last):
    """The parts of a sheet from first times a size on, up to last times it, by a deed that cuts it in two."""
    if last - first == 1:
        return [sheet]
    # Each half is cut by itself, so that no piece is tried against each line.
    middle = (first + last) // 2
    one, other = cut(sheet, times(size, (middle, 1)))
    return slices(one, cut, size, first, middle) + slices(other, cut, size, middle, last)


def columns_of(sheet, wide, many):
    """So many sheets of one width, from the left on, and one of what is left, each moved to where the first lies.

    The sheet has nothing at the left of (0, 0, 1).
    """
    return [
        moved(part, at(times(wide, (-place, 1)), (0, 1)))
        for place, part in enumerate(slices(sheet, cut_upright, wide, 0, many + 1))
    ]


def layers_of(sheet, high, many):
    """So many sheets of one height, from below on, and one of what is left, each moved to where the first lies.

    The sheet has nothing below (0, 0, 1).
    """
    return [
        moved(part, at((0, 1), times(high, (-place, 1))))
        for place, part in enumerate(slices(sheet, cut_level, high, 0, many + 1))
    ]
