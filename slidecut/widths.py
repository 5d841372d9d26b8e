"""Boxes, tuples (width, height, sheet), led to other widths by cutting and sliding alone."""

from slidecut.points import at
from slidecut.ratios import NOTHING, against, least_whole, minus, most_whole, over, plus, times, under
from slidecut.sheets import columns_of, cut_sheet, cut_upright, layers_of, moved


def piled(boxes):
    """One box of some boxes of one width, each laid on the one ahead."""
    height = NOTHING
    pile = []
    for wide, high, sheet in boxes:
        pile.extend(moved(sheet, at(NOTHING, height)))
        height = plus(height, high)
    return (boxes[0][0], height, pile)


def in_columns(box, wide):
    """A box cut into boxes of the width wide, and a last one that is at least as wide, but not twice so."""
    broad, high, sheet = box
    many = most_whole(over(broad, wide)) - 1
    sheets = columns_of(sheet, wide, many)
    last = (minus(broad, times(wide, (many, 1))), high, sheets.pop())
    return [(wide, high, one) for one in sheets] + [last]


def in_layers(box, wide):
    """A box less wide than wide, its layers side by side: at least as wide, but not twice so."""
    narrow, high, sheet = box
    many = least_whole(over(wide, narrow))
    low = over(high, (many, 1))
    row = []
    for place, layer in enumerate(layers_of(sheet, low, many - 1)):
        row.extend(moved(layer, at(times(narrow, (place, 1)), NOTHING)))
    return (times(narrow, (many, 1)), low, row)


def in_three(box, wide):
    """A box at least as wide as wide, but not twice so, led to this width by a slanting line."""
    broad, low, sheet = box
    if broad == wide:
        return box
    high = over(times(broad, low), wide)
    below, above = cut_sheet(sheet, at(broad, NOTHING), at(NOTHING, high))
    kept, beyond = cut_upright(below, wide)
    onto = moved(beyond, at(against(wide), low))
    back = moved(above, at(minus(wide, broad), minus(high, low)))
    return (wide, high, kept + onto + back)


def widened(box, wide):
    """The box led to another width, its area the same."""
    if under(box[0], wide):
        boxes = [in_layers(box, wide)]
    else:
        boxes = in_columns(box, wide)
    return piled(boxes[:-1] + [in_three(boxes[-1], wide)])


def piled_by_width(boxes):
    """The boxes, those of one width piled to one."""
    alike = {}
    for box in boxes:
        alike.setdefault(box[0], []).append(box)
    return [piled(some) for some in alike.values()]


def column(boxes, wide):
    """One box of a told width of some boxes of any widths."""
    if not boxes:
        return (wide, NOTHING, [])
    # Boxes of one width are piled first, so that few lines cut them.
    return piled([widened(pile, wide) for pile in piled_by_width(boxes)])
