"""Points 16 and 17: corner pieces split and paired, and rests evened."""

import unittest
from fractions import Fraction

from slidecut.pairs import evened, paired, split
from slidecut.sheets import fresh
from tests.helpers import numbers, written
from tests.laying import SheetCase, in_pieces, pieces_of, some_size
from tests.shapes import plain_corner

KINDS = [(slope, hand) for slope in (Fraction(3, 2), Fraction(-3, 2)) for hand in ("low", "high")]


def fresh_corner(slope, hand, wide):
    """A corner piece, as a tuple (width, sheet), of one piece that lies where it first lay."""
    return (written(Fraction(wide)), [fresh(plain_corner(slope, hand, Fraction(wide)))])


def some_corner(rng, slope, hand, wide):
    """A corner piece, as a tuple (width, sheet), of several pieces, turned and not."""
    return (written(wide), in_pieces(rng, plain_corner(slope, hand, wide), rng.randrange(4)))


def sum_of(things):
    """The sum of the widths of some tuples that begin with a width."""
    return sum((Fraction(*thing[0]) for thing in things), Fraction(0))


class Split(SheetCase):
    def check(self, slope, hand, corner, part):
        wide, sheet = corner
        with self.subTest(slope=slope, hand=hand, corner=corner, part=part):
            told = self.asked(split, written(slope), hand, wide, sheet, written(part))
            self.assertIs(type(told), tuple)
            part_sheet, rest_sheet, box = told
            rest = Fraction(*wide) - part
            self.assertCorner(slope, hand, written(part), part_sheet)
            self.assertCorner(slope, hand, written(rest), rest_sheet)
            self.assertBox(box)
            self.assertSame(box[:2], (written(rest), written(part * abs(slope))))
            self.assertCutOf(part_sheet + rest_sheet + box[2], sheet)

    def test_of_one_piece(self):
        for slope, hand in KINDS:
            for part in (1, 2, 4, Fraction(1, 7), Fraction(34, 7)):
                self.check(slope, hand, fresh_corner(slope, hand, 5), Fraction(part))

    def test_of_several_pieces(self):
        for rng in numbers(40, "split"):
            slope, hand = rng.choice(KINDS)
            slope *= some_size(rng, rng.choice((1, 3)))
            wide = some_size(rng, rng.choice((1, 3)))
            part = wide * Fraction(rng.randint(1, 98), 99)
            self.check(slope, hand, some_corner(rng, slope, hand, wide), part)

    def test_twelve_figures(self):
        for rng in numbers(8, "split twelve"):
            slope, hand = rng.choice(KINDS)
            slope *= some_size(rng, 12)
            wide = some_size(rng, 12)
            self.check(slope, hand, fresh_corner(slope, hand, wide), wide * Fraction(1, rng.randint(2, 10 ** 12)))

    def test_told_ones(self):
        told = split((1, 1), "low", (3, 1), [fresh(plain_corner(Fraction(1), "low", Fraction(3)))], (1, 1))
        self.assertEqual(told[2][:2], ((2, 1), (1, 1)))
        self.assertEqual([len(sheet) for sheet in (told[0], told[1], told[2][2])], [1, 1, 1])


class Paired(SheetCase):
    def check(self, slope, low, high):
        with self.subTest(slope=slope, low=low, high=high):
            told = self.asked(paired, written(slope), low, high)
            self.assertIs(type(told), tuple)
            hand, rest, boxes = told
            over = sum_of(low) - sum_of(high)
            self.assertSame(hand, "high" if over < 0 else "low")
            self.assertIs(type(rest), list)
            self.assertEqual(sum_of(rest), abs(over))
            if over == 0:
                self.assertEqual(rest, [])
            for one in rest:
                self.assertIs(type(one), tuple)
                wide, sheet = one
                self.assertCorner(slope, hand, wide, sheet)
            self.assertBoxes(boxes)
            self.assertCutOf(pieces_of(rest) + pieces_of(boxes), pieces_of(low) + pieces_of(high))
            return told

    def test_none(self):
        self.assertSame(self.asked(paired, (1, 2), [], []), ("low", [], []))

    def test_of_one_hand_alone(self):
        for slope in (Fraction(2), Fraction(-2, 7)):
            low = [fresh_corner(slope, "low", wide) for wide in (3, 1, 2)]
            high = [fresh_corner(slope, "high", wide) for wide in (3, 1, 2)]
            self.assertEqual(self.check(slope, low, [])[2], [])
            self.assertEqual(self.check(slope, [], high)[2], [])
            self.check(slope, low[:1], [])
            self.check(slope, [], high[:1])

    def test_of_one_width_they_make_a_box(self):
        for slope in (Fraction(2), Fraction(-2, 7)):
            low, high = fresh_corner(slope, "low", 4), fresh_corner(slope, "high", 4)
            hand, rest, boxes = self.check(slope, [low], [high])
            self.assertEqual((hand, rest), ("low", []))
            self.assertEqual(sum(Fraction(*wide) * Fraction(*high) for wide, high, sheet in boxes), 16 * abs(slope))

    def test_widths(self):
        for slope in (Fraction(3, 2), Fraction(-3, 2)):
            for ones, others in (
                ((3,), (2,)), ((2,), (3,)), ((1, 1, 1), (3,)), ((3,), (1, 1, 1)), ((5, 3), (4, 3, 1)), ((1, 2), (2, 1)),
                ((7, 2), (2, 2, 2)), ((Fraction(1, 3), Fraction(1, 2)), (Fraction(5, 6),)), ((1, 9), (1, 1, 2)),
                ((4, 4, 4), (5, 5)), ((1,), (1, 1)), ((1, 1), (1,)),
            ):
                low = [fresh_corner(slope, "low", wide) for wide in ones]
                high = [fresh_corner(slope, "high", wide) for wide in others]
                self.check(slope, low, high)

    def test_many(self):
        for rng in numbers(30, "paired"):
            slope = some_size(rng, 2) * rng.choice((1, -1))
            low, high = (
                [some_corner(rng, slope, hand, some_size(rng)) for k in range(rng.randrange(5))]
                for hand in ("low", "high")
            )
            self.check(slope, low, high)


class Evened(SheetCase):
    def check(self, slope, hand, rest, other):
        with self.subTest(slope=slope, hand=hand, rest=rest, other=other):
            told = self.asked(evened, written(slope), hand, rest, other)
            self.assertIs(type(told), tuple)
            pairs, boxes, other_boxes = told
            self.assertIs(type(pairs), list)
            for pair in pairs:
                self.assertIs(type(pair), tuple)
                wide, sheet, other_sheet = pair
                self.assertCorner(slope, hand, wide, sheet)
                self.assertCorner(slope, hand, wide, other_sheet)
            self.assertEqual(sum_of(pairs), sum_of(rest))
            self.assertBoxes(boxes)
            self.assertBoxes(other_boxes)
            sheets = [piece for wide, sheet, other_sheet in pairs for piece in sheet]
            self.assertCutOf(sheets + pieces_of(boxes), pieces_of(rest))
            self.assertCutOf(pieces_of(pairs) + pieces_of(other_boxes), pieces_of(other))
            return told

    def test_none(self):
        self.assertSame(self.asked(evened, (1, 2), "low", [], []), ([], [], []))

    def test_of_one(self):
        for slope, hand in KINDS:
            one = fresh_corner(slope, hand, 4)
            pairs, boxes, other_boxes = self.check(slope, hand, [one], [one])
            self.assertEqual((boxes, other_boxes), ([], []))

    def test_widths(self):
        for slope, hand in KINDS:
            for ones, others in (
                ((3,), (1, 2)), ((1, 2), (3,)), ((1, 2), (2, 1)), ((4, 1), (2, 3)), ((5, 5), (4, 3, 3)),
                ((Fraction(1, 2), Fraction(1, 3)), (Fraction(5, 6),)), ((6, 6, 6), (9, 9)), ((1,) * 4, (2, 2)),
            ):
                rest, other = ([fresh_corner(slope, hand, wide) for wide in some] for some in (ones, others))
                self.check(slope, hand, rest, other)

    def test_many(self):
        for rng in numbers(30, "evened"):
            slope, hand = rng.choice(KINDS)
            slope *= some_size(rng, 2)
            whole = some_size(rng)
            rest, other = ([], [])
            for some in (rest, other):
                cuts = sorted({0, 1} | {Fraction(rng.randint(1, 11), 12) for k in range(rng.randrange(5))})
                for low, high in zip(cuts, cuts[1:]):
                    some.append(some_corner(rng, slope, hand, whole * (high - low)))
            self.check(slope, hand, rest, other)


if __name__ == "__main__":
    unittest.main()
