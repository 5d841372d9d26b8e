"""What rings have in common, and sheets laid over one another."""

from slidecut.cloths import sides_of
from slidecut.points import step_to, turned
from slidecut.sheets import cut_ring, first_ring


def common(one, other):
    """The ring of what two rings that bulge nowhere inward have in common; None where it has no area."""
    ring = one
    for p, q in sides_of(other):
        ring = cut_ring(ring, p, q)[0]
        if not ring:
            return None
    return ring


def moves_of(ring, piece, other):
    """The moves of a ring that lies on two pieces: from where the one first lay to where the other did."""
    is_turned, step = piece[1:]
    other_is_turned, other_step = other[1:]
    onward = step_to(other_step, step)
    if other_is_turned:
        onward = turned(onward)
    first = first_ring((ring, is_turned, step))
    return [
        ([first[0], p, q], is_turned != other_is_turned, onward)
        for p, q in zip(first[1:], first[2:])
    ]


def scale_of(sheets):
    """A whole number by which the places of all corners of some sheets are spread, so that unlike ones stay unlike."""
    most = max([corner[2] for sheet in sheets for ring, is_turned, step in sheet for corner in ring])
    # Two unlike places differ by 1 over both third numbers at least, so by 1 at least when spread so far.
    return most * most


def reach_of(piece, scale):
    """A tuple (low, high, left, right, piece), whole numbers in the order of the places."""
    heights = [b * scale // n for a, b, n in piece[0]]
    places = [a * scale // n for a, b, n in piece[0]]
    return (min(heights), max(heights), min(places), max(places), piece)


def is_crowded(reaches):
    """Whether at a height more pieces lie, all in all, than at a place from left to right."""
    heights = sum([reach[1] - reach[0] for reach in reaches])
    widths = sum([reach[3] - reach[2] for reach in reaches])
    height = max([reach[1] for reach in reaches]) - min([reach[0] for reach in reaches])
    width = max([reach[3] for reach in reaches]) - min([reach[2] for reach in reaches])
    return heights * width > widths * height


def seen_aside(reaches):
    """The reaches, with the places from left to right ahead of the heights."""
    return [(left, right, low, high, piece) for low, high, left, right, piece in reaches]


def met(reaches, others):
    """Tuples of two pieces, one of each list, whose reaches have more than a line in common."""
    waiting = sorted(others, key=lambda reach: -reach[0])
    near = []
    told = []
    for low, high, left, right, piece in sorted(reaches, key=lambda reach: reach[0]):
        # Later pieces begin no lower, so that what ends below this one meets none of them.
        near = [reach for reach in near if reach[1] > low]
        while waiting and waiting[-1][0] < high:
            near.append(waiting.pop())
        for other_low, other_high, other_left, other_right, other_piece in near:
            if other_low < high and low < other_high and other_left < right and left < other_right:
                told.append((piece, other_piece))
    return told


def facing(sheet, other):
    """Tuples of a piece of the one and a piece of the other sheet that may have an area in common."""
    if not sheet or not other:
        return []
    scale = scale_of([sheet, other])
    reaches = [reach_of(piece, scale) for piece in sheet]
    others = [reach_of(piece, scale) for piece in other]
    if is_crowded(reaches + others):
        return met(seen_aside(reaches), seen_aside(others))
    return met(reaches, others)


def laid_over(sheet, other):
    """The moves from where a sheet's pieces first lay to where those of another, which lies as it, did."""
    moves = []
    for piece, other_piece in facing(sheet, other):
        ring = common(piece[0], other_piece[0])
        if ring is not None:
            moves.extend(moves_of(ring, piece, other_piece))
    return moves
