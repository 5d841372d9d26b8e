"""Texts for the tests: numbers that are written rightly and wrongly, and cloths written by Python's own fractions."""

from tests.helpers import MOST, flat

NUMBERS = ("0", "1", "-1", "7", "10", "-10", "1/2", "-1/2", "22/7", "-22/7", "1/3", "100/7", str(MOST), str(-MOST),
           f"1/{MOST}", f"-1/{MOST}", f"{MOST}/{MOST - 1}", "9" * 30, "1" + "0" * 29)
NO_NUMBERS = (
    "", "-", "+", "/", "00", "01", "007", "-0", "-00", "-01", "+1", "+0", "--1", "1/1", "0/1", "-0/1", "0/2", "2/2",
    "2/4",
    "6/3", "-2/4", "4/1", "1/0", "0/0", "-1/0", "1/", "/2", "1//2", "1/2/3", "1/-2", "-1/-2", "1/+2", "1/02", "01/2",
    "1 /2", "1/ 2", "- 1", " 1", "1 ", "1.0", "1e3", "1_0", "0x1", "a", "1a", "none", "1;", "1:2", "9" * 31,
    "-" + "9" * 31,
    "1/" + "9" * 31, "1" + "0" * 30, "1/1" + "0" * 30, "10" * 20, "~", "'1'", "(1)", "1-", "1-2", "\u0661", "\u00b2",
    "\uff11",
)


def plain_ratio(value):
    """A Fraction written."""
    return str(value)


def plain_point(p):
    return ",".join(plain_ratio(one) for one in flat(p))


def plain_cloth(cloth):
    return "; ".join(" ".join(plain_point(p) for p in ring) for ring in cloth) or "none"
