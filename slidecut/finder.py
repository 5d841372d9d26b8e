"""Plans found: both cloths are led to corner pieces alike and one column, and laid over one another."""

from slidecut.boxes import boxes_laid_over
from slidecut.errors import NoPlan
from slidecut.marks import forbids
from slidecut.overlays import laid_over
from slidecut.pairs import box_of, matched, paired, split
from slidecut.points import at
from slidecut.ratios import over, times, unsigned
from slidecut.sheets import half_turned, moved
from slidecut.slabs import slabs
from slidecut.strips import striped


def corners_and_boxes(cloth):
    """The corner pieces of a cloth, lists of (width, sheet) by slope and hand, and its boxes."""
    corners = {}
    boxes = []
    for slab in slabs(cloth):
        some, more = striped(slab)
        boxes.extend(more)
        for slope, hand, wide, sheet in some:
            corners.setdefault((slope, hand), []).append((wide, sheet))
    return (corners, boxes)


def laid_out(cloth):
    """The rests of a cloth's corner pieces, tuples (hand, rest) by slope, and its boxes."""
    corners, boxes = corners_and_boxes(cloth)
    rests = {}
    for slope in sorted({slope for slope, hand in corners}):
        hand, rest, more = paired(slope, corners.get((slope, "low"), []), corners.get((slope, "high"), []))
        boxes.extend(more)
        if rest:
            rests[slope] = (hand, rest)
    return (rests, boxes)


def turned_over(slope, wide, sheet):
    """The sheet of a corner piece, turned half round to lie as that of the other hand."""
    return moved(half_turned(sheet), at(wide, times(unsigned(slope), wide)))


def halved(slope, hand, wide, sheet):
    """The two boxes of a corner piece, one half of which is turned half round."""
    part, rest, box = split(slope, hand, wide, sheet, over(wide, (2, 1)))
    half = box[0]
    return [box, box_of(slope, half, part, turned_over(slope, half, rest))]


def rests_met(slope, rests, other_rests):
    """A tuple (moves, boxes, other boxes) of what two cloths have left of the corner pieces of one slope.

    Where the marks are the same, so are the hands and the sums of widths, and nothing is turned.
    """
    other_hand, other_rest = other_rests.get(slope, ("low", []))
    hand, rest = rests.get(slope, (other_hand, []))
    if hand != other_hand:
        other_rest = [(wide, turned_over(slope, wide, sheet)) for wide, sheet in other_rest]
    pairs, boxes, other_boxes, left, other_left = matched(slope, hand, rest, hand, other_rest)
    for wide, sheet in left:
        boxes.extend(halved(slope, hand, wide, sheet))
    for wide, sheet in other_left:
        other_boxes.extend(halved(slope, hand, wide, sheet))
    moves = []
    for wide, sheet, other_sheet in pairs:
        moves.extend(laid_over(sheet, other_sheet))
    return (moves, boxes, other_boxes)


def plan(one, other, turning):
    """A plan of one cloth to the other, a list of moves, half turns let in where turning; or NoPlan."""
    why = forbids(one, other, turning)
    if why is not None:
        raise NoPlan(why)
    rests, boxes = laid_out(one)
    other_rests, other_boxes = laid_out(other)
    moves = []
    for slope in sorted(set(rests) | set(other_rests)):
        some, more, other_more = rests_met(slope, rests, other_rests)
        moves.extend(some)
        boxes.extend(more)
        other_boxes.extend(other_more)
    return moves + boxes_laid_over(boxes, other_boxes)
