"""Plans checked by their sides alone, joined, and led back."""

from slidecut.cloths import ring_area, sides_of
from slidecut.overlays import laid_over
from slidecut.points import crossed, slid, turned
from slidecut.ratios import greatest_divisor


def led_point(p, is_turned, step):
    """Where a point goes that is turned half round where is_turned, and then slid by a step."""
    if is_turned:
        p = turned(p)
    return slid(p, step)


def led_ring(move):
    """The ring of a move where it leads."""
    ring, is_turned, step = move
    return [led_point(corner, is_turned, step) for corner in ring]


def line_of(p, q):
    """The line through two points, a triple that is the same for any two points of it."""
    a, b, c = crossed(p, q)
    divisor = greatest_divisor(greatest_divisor(a, b), c)
    # Seen the other way, all three numbers have the other sign.
    if a < 0 or (a == 0 and b < 0):
        divisor = -divisor
    return (a // divisor, b // divisor, c // divisor)


def count_sides(counts, rings, share):
    """Each side of some rings is counted in: by its line, share where it begins, against that where it ends."""
    for ring in rings:
        for p, q in sides_of(ring):
            line = line_of(p, q)
            counts[(line, p)] = counts.get((line, p), 0) + share
            counts[(line, q)] = counts.get((line, q), 0) - share


def part(rings, cloth):
    """Whether rings that have an area above 0 each part a cloth, none on another."""
    counts = {}
    count_sides(counts, rings, 1)
    count_sides(counts, cloth, -1)
    for count in counts.values():
        if count != 0:
            return False
    return True


def is_triangle(ring):
    """Whether a list of points is a ring of three corners with its inside, which has an area, at the left hand."""
    return len(ring) == 3 and ring_area(ring)[0] > 0


def is_plan(one, other, moves, turning):
    """Whether a list of moves is a plan of one cloth to the other, half turns let in where turning."""
    for ring, is_turned, step in moves:
        if not is_triangle(ring) or (is_turned and not turning):
            return False
    return part([move[0] for move in moves], one) and part([led_ring(move) for move in moves], other)


def step_back(is_turned, step):
    """The step of the way back of a move: a move that is turned leads there and back by one step."""
    return step if is_turned else turned(step)


def led_back(moves):
    """The plan of the second cloth to the first."""
    return [(led_ring(move), move[1], step_back(move[1], move[2])) for move in moves]


def joined(moves, others):
    """The plan by which each point goes as the first and then the other moves lead it."""
    sheet = [(led_ring(move), move[1], move[2]) for move in moves]
    # Where the second cloth's pieces first lay is, for this, where the other moves lead them.
    other = [(ring, is_turned, step_back(is_turned, step)) for ring, is_turned, step in others]
    return laid_over(sheet, other)
