"""Ratios, points and cloths written as texts, and read again."""

from slidecut.cloths import is_cloth
from slidecut.errors import NoCloth, NoText
from slidecut.points import at, x_of, y_of
from slidecut.ratios import ratio

FIGURES = "0123456789"
MOST_FIGURES = 30
GREAT_FIGURES = 64
GREAT = 10 ** 64
NO_RINGS = "none"


def show_whole(number):
    """A whole number written, of however many figures."""
    # Python itself writes no number of more than some thousand figures, so it is written part by part.
    parts = []
    rest = abs(number)
    while rest >= GREAT:
        rest, part = divmod(rest, GREAT)
        parts.append(str(part).zfill(GREAT_FIGURES))
    parts.append(str(rest))
    return ("-" if number < 0 else "") + "".join(parts[::-1])


def show_ratio(one):
    """A ratio written: its top, and behind a stroke its bottom where that is not 1."""
    top, bottom = one
    if bottom == 1:
        return show_whole(top)
    return f"{show_whole(top)}/{show_whole(bottom)}"


def show_point(p):
    """A point, or a step, written: how far it lies to the right and up."""
    return f"{show_ratio(x_of(p))},{show_ratio(y_of(p))}"


def show_ring(ring):
    """A ring written, corner by corner."""
    return " ".join([show_point(corner) for corner in ring])


def show_cloth(cloth):
    """A cloth written, ring by ring."""
    if not cloth:
        return NO_RINGS
    return "; ".join([show_ring(ring) for ring in cloth])


def is_whole(text):
    """Whether a text is a whole number from 0 on as it is written, of at most thirty figures."""
    if not 1 <= len(text) <= MOST_FIGURES:
        return False
    for sign in text:
        if sign not in FIGURES:
            return False
    return text == "0" or text[0] != "0"


def read_whole(text):
    """The whole number from 0 on that a text writes; NoText where it writes none."""
    if not is_whole(text):
        raise NoText("a whole number has one to thirty figures, no nought ahead")
    return int(text)


def read_ratio(text):
    """The ratio that a text writes; NoText where it writes none."""
    sign, bare = (-1, text[1:]) if text.startswith("-") else (1, text)
    above, stroke, below = bare.partition("/")
    top = read_whole(above)
    bottom = read_whole(below) if stroke else 1
    if bottom == 0:
        raise NoText("the bottom of a ratio is not 0")
    told = ratio(sign * top, bottom)
    # Written again it is another text where it was not in lowest terms, or 0 with a sign.
    if show_ratio(told) != text:
        raise NoText("a ratio is written in lowest terms")
    return told


def read_point(text):
    """The point that a text writes; NoText where it writes none."""
    # Without a comma the second text is empty, and so no ratio.
    right, comma, up = text.partition(",")
    return at(read_ratio(right), read_ratio(up))


def read_ring(text):
    """The list of points that a text writes, with one blank between; NoText where it writes none."""
    return [read_point(word) for word in text.split(" ")]


def read_cloth(text):
    """The cloth that a text writes; NoText where it writes no rings, NoCloth where they are no cloth."""
    if text == NO_RINGS:
        return []
    rings = [read_ring(part) for part in text.split("; ")]
    if not is_cloth(rings):
        raise NoCloth("these rings are no cloth")
    return rings
