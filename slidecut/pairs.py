"""Corner pieces of one slope split, and paired to boxes or with those of another cloth."""

from slidecut.points import at
from slidecut.ratios import NOTHING, against, minus, ranks, times, under, unsigned
from slidecut.sheets import copied, cut_level, cut_upright, moved


def split(slope, hand, wide, sheet, part):
    """A corner piece split: the sheet of one of the width part, that of one of the rest's width, and a box."""
    rest = minus(wide, part)
    steep = unsigned(slope)
    is_low = hand == "low"
    # The part is taken where the corner piece has no height.
    part_is_left = is_low == (slope[0] > 0)
    height = times(steep, part if is_low else rest)
    left, right = cut_upright(sheet, part if part_is_left else rest)
    part_sheet, others = (left, right) if part_is_left else (right, left)
    below, above = cut_level(others, height)
    rest_sheet, box = (above, below) if is_low else (below, above)
    down = against(height)
    part_step = at(NOTHING if part_is_left else against(rest), NOTHING if is_low else down)
    aside = against(part) if part_is_left else NOTHING
    rest_step = at(aside, down if is_low else NOTHING)
    box_step = at(aside, NOTHING if is_low else down)
    told_box = (rest, times(steep, part), moved(box, box_step))
    return (moved(part_sheet, part_step), moved(rest_sheet, rest_step), told_box)


def widest_last(corners):
    """Corner pieces, tuples (width, sheet), sorted by their widths."""
    order = ranks([wide for wide, sheet in corners])
    places = sorted(range(len(corners)), key=lambda place: order[place])
    return [corners[place] for place in places]


def alike(ones, others):
    """A tuple (pairs, ones, others): corner pieces of one width each, and what is left of both lists."""
    waiting = {}
    for wide, sheet in others:
        waiting.setdefault(wide, []).append(sheet)
    pairs = []
    ones_left = []
    for wide, sheet in ones:
        if waiting.get(wide):
            pairs.append((wide, copied(sheet), copied(waiting[wide].pop())))
        else:
            ones_left.append((wide, copied(sheet)))
    others_left = [(wide, copied(sheet)) for wide, sheets in waiting.items() for sheet in sheets]
    return (pairs, ones_left, others_left)


def matched(slope, hand, ones, other_hand, others):
    """A tuple (pairs, boxes, other boxes, ones, others) of corner pieces of one slope and a hand each.

    pairs are tuples (width, sheet, other sheet); of one of both lists nothing is left.
    """
    pairs, ones, others = alike(ones, others)
    ones, others = widest_last(ones), widest_last(others)
    boxes = []
    other_boxes = []
    while ones and others:
        wide, sheet = ones.pop()
        other_wide, other_sheet = others.pop()
        if under(other_wide, wide):
            sheet, rest, box = split(slope, hand, wide, sheet, other_wide)
            ones.append((box[0], rest))
            boxes.append(box)
            wide = other_wide
        elif under(wide, other_wide):
            other_sheet, rest, box = split(slope, other_hand, other_wide, other_sheet, wide)
            others.append((box[0], rest))
            other_boxes.append(box)
        pairs.append((wide, sheet, other_sheet))
    return (pairs, boxes, other_boxes, ones, others)


def box_of(slope, wide, low, high):
    """The box that the sheets of a low and a high corner piece of one slope and width make."""
    return (wide, times(unsigned(slope), wide), low + high)


def paired(slope, low, high):
    """A tuple (hand, rest, boxes) of the low and the high corner pieces of a slope, lists of (width, sheet)."""
    pairs, boxes, other_boxes, low_rest, high_rest = matched(slope, "low", low, "high", high)
    made = [box_of(slope, wide, low_sheet, high_sheet) for wide, low_sheet, high_sheet in pairs]
    hand = "high" if high_rest else "low"
    return (hand, low_rest + high_rest, boxes + other_boxes + made)


def evened(slope, hand, rest, other):
    """A tuple (pairs, boxes, other boxes) of two rests of a slope and a hand whose widths come to the same."""
    return matched(slope, hand, rest, hand, other)[:3]
