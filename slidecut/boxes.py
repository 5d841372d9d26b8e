"""Boxes, tuples (width, height, sheet), of one cloth led to those of another one."""

from slidecut.overlays import laid_over
from slidecut.points import at
from slidecut.ratios import NOTHING, against, minus, over, ranks, times, under
from slidecut.sheets import cut_level, cut_upright, moved
from slidecut.widths import piled_by_width, widened

FAR = (4, 1)


def least_place(boxes):
    """The place of the box of the least area."""
    areas = ranks([times(wide, high) for wide, high, sheet in boxes])
    return areas.index(min(areas))


def unlikeness(one, other):
    """How many times as great as the lesser of two ratios above 0 the other one is."""
    return over(other, one) if under(one, other) else over(one, other)


def goes_upright(box, like):
    """Whether a part of a box is liker to another box where it is cut off by an upright line than by a level one."""
    return under(unlikeness(box[1], like[1]), unlikeness(box[0], like[0]))


def is_far_greater(box, like):
    """Whether a box is both far wider and far higher than another one."""
    return under(times(FAR, like[0]), box[0]) and under(times(FAR, like[1]), box[1])


def farness(box, like):
    """How unlike a part of a box, as great as another box, is to this at least, a ratio."""
    if is_far_greater(box, like):
        return FAR
    way = 1 if goes_upright(box, like) else 0
    return unlikeness(box[way], like[way])


def nearest_place(boxes, like):
    """The place of the box of which a part is liker to another box than parts of the others are."""
    order = ranks([farness(box, like) for box in boxes])
    return order.index(min(order))


def cut_at_place(box, short):
    """The two boxes into which an upright line cuts a box, the left one so wide; the right one may be None."""
    wide, high, sheet = box
    left, right = cut_upright(sheet, short)
    rest = None
    if right:
        rest = (minus(wide, short), high, moved(right, at(against(short), NOTHING)))
    return ((short, high, left), rest)


def cut_at_height(box, low):
    """The two boxes into which a level line cuts a box, the low one so high; the high one may be None."""
    wide, high, sheet = box
    below, above = cut_level(sheet, low)
    rest = None
    if above:
        rest = (wide, minus(high, low), moved(above, at(NOTHING, against(low))))
    return ((wide, low, below), rest)


def strip_off(box, like):
    """A tuple (box, rest): of a far greater box a strip as wide or as high as another box is cut off.

    So a small box is not led to a long and thin part of a great one.
    """
    if not is_far_greater(box, like):
        return (box, None)
    if under(over(box[0], like[0]), over(box[1], like[1])):
        return cut_at_height(box, like[1])
    return cut_at_place(box, like[0])


def part_off(box, like):
    """A tuple (box, rest): a part as great as another box, which is no greater, is cut off."""
    size = times(like[0], like[1])
    if goes_upright(box, like):
        return cut_at_place(box, over(size, box[1]))
    return cut_at_height(box, over(size, box[0]))


def take_as_great(boxes, like):
    """A box as great as another one is taken away from some boxes, none of which is less."""
    box, rest = strip_off(boxes.pop(nearest_place(boxes, like)), like)
    part, other_rest = part_off(box, like)
    boxes.extend([some for some in (rest, other_rest) if some is not None])
    return part


def box_laid_over(box, other):
    """The moves from a box to another one of the same area."""
    # The one with fewer pieces is cut further.
    if len(box[2]) < len(other[2]):
        return laid_over(widened(box, other[0])[2], other[2])
    return laid_over(box[2], widened(other, box[0])[2])


def boxes_laid_over(boxes, others):
    """The moves from some boxes to others, whose areas come to the same."""
    boxes = piled_by_width(boxes)
    others = piled_by_width(others)
    moves = []
    while boxes:
        # The least of all goes first: a part of any on the other hand is as great.
        place = least_place(boxes + others)
        if place < len(boxes):
            box = boxes.pop(place)
            other = take_as_great(others, box)
        else:
            other = others.pop(place - len(boxes))
            box = take_as_great(boxes, other)
        moves.extend(box_laid_over(box, other))
    return moves
