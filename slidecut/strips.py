"""Boxes and corner pieces, and slabs cut into strips that make them up."""

from slidecut.points import at, slid, step_to, x_of, y_of
from slidecut.ratios import NOTHING, against, least_root, least_whole, minus, over, plus, times, under, unsigned
from slidecut.sheets import cut_level, cut_sheet, cut_upright, fresh, layers_of, moved
from slidecut.slabs import point_above, slab_ring

HALF = (1, 2)


def box_ring(wide, high):
    """The ring of a box, from (0, 0) on."""
    return [at(NOTHING, NOTHING), at(wide, NOTHING), at(wide, high), at(NOTHING, high)]


def diagonal(slope, wide):
    """The left and the right end of the line of a slope that cuts a box of a width from corner to corner."""
    rise = times(slope, wide)
    if rise[0] > 0:
        return (at(NOTHING, NOTHING), at(wide, rise))
    return (at(NOTHING, against(rise)), at(wide, NOTHING))


def corner_ring(slope, hand, wide):
    """The ring of the low or the high part of the box that a line of a slope cuts from corner to corner."""
    left, right = diagonal(slope, wide)
    foot, low_right, high_right, high_left = box_ring(wide, unsigned(times(slope, wide)))
    if hand == "high":
        return [left, right, high_left if slope[0] > 0 else high_right]
    return [foot, low_right, right if slope[0] > 0 else left]


def slope_of(p, q):
    """How much the line from p to q, which is not upright, goes up over how much it goes to the right."""
    step = step_to(p, q)
    return over(y_of(step), x_of(step))


def lesser(one, other):
    """The lesser of two ratios."""
    return one if under(one, other) else other


def height_of(low, high):
    """How much higher one point lies than another one."""
    return y_of(step_to(low, high))


def width_of(slab):
    """How wide a slab is."""
    return x_of(step_to(slab[0], slab[1]))


def raised(p, height):
    """The point, so much higher."""
    return slid(p, at(NOTHING, height))


def level_striped(slab, low, high):
    """A slab whose sides, of slopes low and high, do not both go up or both down, cut along level lines."""
    low_left, low_right, high_right, high_left = slab
    wide = width_of(slab)
    left = against(x_of(low_left))
    foot = y_of(low_left) if low[0] < 0 else y_of(low_right)
    roof = y_of(high_left) if high[0] > 0 else y_of(high_right)
    below, rest = cut_level([fresh(slab_ring(slab))], foot)
    between, above = cut_level(rest, roof)
    corners = []
    if below:
        bottom = minus(foot, unsigned(times(low, wide)))
        corners.append((low, "high", wide, moved(below, at(left, against(bottom)))))
    if above:
        corners.append((high, "low", wide, moved(above, at(left, against(roof)))))
    boxes = []
    if between:
        boxes.append((wide, minus(roof, foot), moved(between, at(left, against(foot)))))
    return (corners, boxes)


def thin_end(slab):
    """How high a slab is at its less high end."""
    return lesser(height_of(slab[0], slab[3]), height_of(slab[1], slab[2]))


def strips_wanted(slab, low, high):
    """Into how many strips a slab is cut, with sides of the slopes low and high, both up or both down.

    The parts of one height that are taken of the strips make a pile as wide as one of them. It must be as
    high as the less steep side goes up or down in a strip: in all of them, but where the slopes are the same.
    """
    flat = lesser(unsigned(low), unsigned(high))
    thin = over(thin_end(slab), width_of(slab))
    if low == high:
        return least_root(over(flat, thin))
    half = times(unsigned(minus(high, low)), HALF)
    return least_whole(over(plus(flat, half), plus(thin, half)))


def strips_of(sheet, slab, many):
    """So many tuples (sheet, slab) of one width, from left to right, of a sheet that lies as a slab."""
    low_left, low_right, high_right, high_left = slab
    short = over(width_of(slab), (many, 1))
    place = x_of(low_left)
    strips = []
    for turn in range(many):
        place = plus(place, short)
        low = point_above(slab[0], slab[1], place)
        high = point_above(slab[3], slab[2], place)
        strip, sheet = cut_upright(sheet, place)
        strips.append((strip, (low_left, low, high, high_left)))
        low_left, high_left = low, high
    return strips


def trimmed(sheet, slab, low, high):
    """A tuple (part, corner, rest, slab) of a sheet that lies as a slab with sides of the slopes low and high.

    The part is taken along the less steep side, as high as the slab's thin end, and has its low left end in
    the corner; the rest lies as the slab that is told, with no height at that end.
    """
    low_left, low_right, high_right, high_left = slab
    thin = thin_end(slab)
    if under(unsigned(low), unsigned(high)):
        left, right = raised(low_left, thin), raised(low_right, thin)
        rest, part = cut_sheet(sheet, left, right)
        return (part, low_left, rest, (left, right, high_right, high_left))
    left, right = raised(high_left, against(thin)), raised(high_right, against(thin))
    part, rest = cut_sheet(sheet, left, right)
    return (part, left, rest, (low_left, low_right, right, left))


def levelled(pile, rise, height):
    """The sheet of a box so high, of a pile whose low side goes from (0, 0) up or down by rise, by height at most."""
    foot = rise if rise[0] > 0 else NOTHING
    below, above = cut_level(pile, foot)
    return moved(below, at(NOTHING, minus(height, foot))) + moved(above, at(NOTHING, against(foot)))


def two_corners(strip, slab, box, low, high):
    """The two corner pieces that a strip makes with a box's sheet.

    The strip lies as a slab that has no height at one end, and sides of the slopes low and high; the box is
    as wide, and as high as the less steep side goes up or down.
    """
    wide = width_of(slab)
    low_line = diagonal(low, wide)
    high_line = diagonal(high, wide)
    if under(unsigned(low), unsigned(high)):
        above, below = cut_sheet(box, low_line[0], low_line[1])
        steep = moved(strip, step_to(slab[3], high_line[0])) + below
        return [(high, "low", wide, steep), (low, "high", wide, above)]
    above, below = cut_sheet(box, high_line[0], high_line[1])
    lift = times(wide, minus(unsigned(low), unsigned(high)))
    steep = moved(strip, step_to(slab[0], low_line[0])) + moved(above, at(NOTHING, lift))
    return [(low, "high", wide, steep), (high, "low", wide, below)]


def leaning_striped(slab, low, high):
    """A slab whose sides, of the slopes low and high, go both up or both down, cut into strips."""
    many = strips_wanted(slab, low, high)
    short = over(width_of(slab), (many, 1))
    pile = []
    height = NOTHING
    strips = []
    for sheet, strip in strips_of([fresh(slab_ring(slab))], slab, many):
        part, corner, rest, rest_slab = trimmed(sheet, strip, low, high)
        pile.extend(moved(part, step_to(corner, at(NOTHING, height))))
        height = plus(height, thin_end(strip))
        strips.append((rest, rest_slab))
    rise = times(short, low if under(unsigned(low), unsigned(high)) else high)
    supply = levelled(pile, rise, height)
    if low == high:
        return ([], [(short, height, supply)])
    layer = unsigned(rise)
    layers = layers_of(supply, layer, many)
    corners = []
    for box, (rest, rest_slab) in zip(layers, strips):
        corners.extend(two_corners(rest, rest_slab, box, low, high))
    boxes = []
    if layers[-1]:
        boxes.append((short, minus(height, times(layer, (many, 1))), layers[-1]))
    return (corners, boxes)


def striped(slab):
    """A tuple (corners, boxes) of what a slab is cut into, slid to lie as boxes and corner pieces."""
    low = slope_of(slab[0], slab[1])
    high = slope_of(slab[3], slab[2])
    if low[0] * high[0] > 0:
        return leaning_striped(slab, low, high)
    return level_striped(slab, low, high)
