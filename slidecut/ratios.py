"""Ratios: tuples (top, bottom) of whole numbers in lowest terms, bottom from 1 on."""

from slidecut.errors import NoRatio

NOTHING = (0, 1)


def greatest_divisor(one, other):
    """The greatest whole number that divides both, from 0 on; 0 where both are 0."""
    one = abs(one)
    other = abs(other)
    while other != 0:
        one, other = other, one % other
    return one


def ratio(top, bottom):
    """The ratio of two whole numbers; NoRatio where the second is 0."""
    if bottom == 0:
        raise NoRatio("the bottom of a ratio is not 0")
    divisor = greatest_divisor(top, bottom)
    # A divisor below 0 turns both signs, so that the bottom is from 1 on.
    if bottom < 0:
        divisor = -divisor
    return (top // divisor, bottom // divisor)


def plus(one, other):
    """The sum of two ratios."""
    # Numbers may have thousands of figures: divisors are sought of the lesser numbers of which they are made.
    shared = greatest_divisor(one[1], other[1])
    top = one[0] * (other[1] // shared) + other[0] * (one[1] // shared)
    # A number that divides the sum's top and its bottom divides what both bottoms have in common.
    divisor = greatest_divisor(shared, top)
    return (top // divisor, one[1] // shared * (other[1] // divisor))


def minus(one, other):
    """What is left of one ratio where the other is taken away."""
    return plus(one, against(other))


def times(one, other):
    """The product of two ratios."""
    # Each ratio is in lowest terms, so only the one's top and the other's bottom have a divisor in common.
    first = greatest_divisor(one[0], other[1])
    second = greatest_divisor(other[0], one[1])
    return (one[0] // first * (other[0] // second), one[1] // second * (other[1] // first))


def over(one, other):
    """What one ratio is over the other; NoRatio where the other is 0."""
    if other[0] == 0:
        raise NoRatio("no ratio is over 0")
    if other[0] < 0:
        return times(one, (-other[1], -other[0]))
    return times(one, (other[1], other[0]))


def under(one, other):
    """Whether one ratio is less than the other."""
    # Both bottoms are above 0, so they may be multiplied across.
    return one[0] * other[1] < other[0] * one[1]


def against(one):
    """The ratio with the other sign."""
    return (-one[0], one[1])


def unsigned(one):
    """The ratio without its sign."""
    return (abs(one[0]), one[1])


def least_whole(one):
    """The least whole number that is not under a ratio."""
    return -(-one[0] // one[1])


def most_whole(one):
    """The greatest whole number that a ratio is not under."""
    return one[0] // one[1]


def least_root(one):
    """The least whole number whose square is not under a ratio."""
    root = 0
    while under((root * root, 1), one):
        root += 1
    return root


def ranks(ratios):
    """Whole numbers in the order of the ratios, alike just where these are alike."""
    most = max([bottom for top, bottom in ratios], default=1)
    # Two unlike ratios differ by 1 over both bottoms at least, so by 1 at least when spread so far.
    return [top * most * most // bottom for top, bottom in ratios]
