"""Marks of cloths: sums over their sides by directions, which no cutting and sliding changes."""

from slidecut.cloths import area, sides_of
from slidecut.points import step_to
from slidecut.ratios import greatest_divisor, plus, ratio


def way_of(step):
    """The direction of a step, and the ratio which times it is the step."""
    a, b, n = step
    parts = greatest_divisor(a, b)
    # Parts below 0 turn both signs, so that a direction goes up, or level to the right.
    if b < 0 or (b == 0 and a < 0):
        parts = -parts
    return ((a // parts, b // parts), ratio(parts, n))


def marks(cloth):
    """The marks of a cloth that are not 0, tuples (direction, ratio), sorted."""
    sums = {}
    for ring in cloth:
        for p, q in sides_of(ring):
            direction, share = way_of(step_to(p, q))
            sums[direction] = plus(sums.get(direction, (0, 1)), share)
    return sorted([(direction, total) for direction, total in sums.items() if total != (0, 1)])


def forbids(one, other, turning):
    """What forbids a plan of one cloth to the other, half turns let in where turning; else None."""
    one_area = area(one)
    other_area = area(other)
    if one_area != other_area:
        return ("area", one_area, other_area)
    if turning:
        return None
    one_marks = dict(marks(one))
    other_marks = dict(marks(other))
    for direction in sorted(set(one_marks) | set(other_marks)):
        one_mark = one_marks.get(direction, (0, 1))
        other_mark = other_marks.get(direction, (0, 1))
        if one_mark != other_mark:
            return ("mark", direction, one_mark, other_mark)
    return None
