"""Points and steps: tuples (a, b, n), a / n to the right and b / n up, in lowest form."""

from slidecut.errors import NoPoint
from slidecut.ratios import greatest_divisor, ratio


def point(a, b, n):
    """The point of three whole numbers; NoPoint where the third is 0."""
    if n == 0:
        raise NoPoint("the third number of a point is not 0")
    divisor = greatest_divisor(greatest_divisor(n, a), b)
    # A divisor below 0 turns all signs, so that the third number is from 1 on.
    if n < 0:
        divisor = -divisor
    return (a // divisor, b // divisor, n // divisor)


def x_of(p):
    """How far a point lies to the right, a ratio."""
    return ratio(p[0], p[2])


def y_of(p):
    """How far a point lies up, a ratio."""
    return ratio(p[1], p[2])


def at(x, y):
    """The point that lies x to the right and y up, two ratios."""
    shared = greatest_divisor(x[1], y[1])
    # Over the least number that both bottoms divide, ratios in lowest terms make a point in lowest form.
    return (x[0] * (y[1] // shared), y[0] * (x[1] // shared), x[1] // shared * y[1])


def slid(p, step):
    """The point slid by a step."""
    a, b, n = p
    right, up, parts = step
    shared = greatest_divisor(n, parts)
    x = a * (parts // shared) + right * (n // shared)
    y = b * (parts // shared) + up * (n // shared)
    # A number that divides these and the new third number divides what both third numbers have in common.
    divisor = greatest_divisor(greatest_divisor(shared, x), y)
    return (x // divisor, y // divisor, n // shared * (parts // divisor))


def step_to(p, q):
    """The step by which the point p is slid to the point q."""
    return slid(q, turned(p))


def turned(p):
    """The point turned half round about (0, 0, 1)."""
    a, b, n = p
    return (-a, -b, n)


def tilted(p, tilt):
    """The point, higher by the ratio tilt times how far it lies to the right."""
    a, b, n = p
    top, bottom = tilt
    return point(a * bottom, b * bottom + a * top, n * bottom)


def crossed(one, other):
    """The cross product of two triples: of two points their line, of two lines their point.

    A line is a triple whose products with the numbers of each of its points come to 0.
    """
    a, b, n = one
    c, d, m = other
    return (b * m - n * d, n * c - a * m, a * d - b * c)


def hand_of(line, p):
    """At which hand of a line, crossed of two of its points, p lies: 1 at the left, -1 at the right, 0 on it."""
    # All third numbers are above 0, so this has the sign of the area that the two points and p go round.
    turn = line[0] * p[0] + line[1] * p[1] + line[2] * p[2]
    if turn > 0:
        return 1
    if turn < 0:
        return -1
    return 0


def side(p, q, r):
    """At which hand r lies, seen from p to q: 1 at the left, -1 at the right, 0 on the line."""
    return hand_of(crossed(p, q), r)


def meet(p, q, r, s):
    """The point in which the line of p and q meets that of r and s; NoPoint where not just one."""
    a, b, n = crossed(crossed(p, q), crossed(r, s))
    if n == 0:
        raise NoPoint("lines of one direction do not meet in just one point")
    return point(a, b, n)
