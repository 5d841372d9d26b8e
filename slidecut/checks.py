"""Plans checked by their sides alone, joined, and led back."""

from slidecut.cloths import sides_of
from slidecut.overlays import laid_over
from slidecut.points import crossed, hand_of, side, slid, turned


def led_point(p, is_turned, step):
    """Where a point goes that is turned half round where is_turned, and then slid by a step."""
    if is_turned:
        p = turned(p)
    return slid(p, step)


def led_ring(move):
    """The ring of a move where it leads."""
    ring, is_turned, step = move
    return [led_point(corner, is_turned, step) for corner in ring]


def note_sides(ends, rings, share):
    """Each side of some rings is noted at both its ends: where it leads to, and share; against share where it ends."""
    for ring in rings:
        for p, q in sides_of(ring):
            ends.setdefault(p, []).append((q, share))
            ends.setdefault(q, []).append((p, -share))


def is_even(p, ends):
    """Whether on each line through a point the shares of the sides that begin or end there come to 0."""
    while ends:
        line = crossed(p, ends[0][0])
        total = 0
        others = []
        for q, share in ends:
            if hand_of(line, q) == 0:
                total += share
            else:
                others.append((q, share))
        if total != 0:
            return False
        ends = others
    return True


def part(rings, cloth):
    """Whether rings that have an area above 0 each part a cloth, none on another."""
    ends = {}
    note_sides(ends, rings, 1)
    note_sides(ends, cloth, -1)
    for p, some in ends.items():
        if not is_even(p, some):
            return False
    return True


def is_triangle(ring):
    """Whether a list of points is a ring of three corners with its inside, which has an area, at the left hand."""
    return len(ring) == 3 and side(ring[0], ring[1], ring[2]) == 1


def is_plan(one, other, moves, turning):
    """Whether a list of moves is a plan of one cloth to the other, half turns let in where turning."""
    for ring, is_turned, step in moves:
        if not is_triangle(ring) or (is_turned and not turning):
            return False
    return part([move[0] for move in moves], one) and part([led_ring(move) for move in moves], other)


def step_back(is_turned, step):
    """The step of the way back of a move: a move that is turned leads there and back by one step."""
    return step if is_turned else turned(step)


def led_back(moves):
    """The plan of the second cloth to the first."""
    return [(led_ring(move), move[1], step_back(move[1], move[2])) for move in moves]


def joined(moves, others):
    """The plan by which each point goes as the first and then the other moves lead it."""
    sheet = [(led_ring(move), move[1], move[2]) for move in moves]
    # Where the second cloth's pieces first lay is, for this, where the other moves lead them.
    other = [(ring, is_turned, step_back(is_turned, step)) for ring, is_turned, step in others]
    return laid_over(sheet, other)
