"""Point 18: boxes led to other widths, and to columns."""

import unittest
from fractions import Fraction

from slidecut.sheets import fresh
from slidecut.widths import column, widened
from tests.helpers import numbers, written
from tests.laying import SheetCase, in_pieces, pieces_of, rings_in, some_size
from tests.shapes import plain_area, plain_box


def fresh_box(wide, high):
    """A box of one piece that lies where it first lay."""
    wide, high = Fraction(wide), Fraction(high)
    return (written(wide), written(high), [fresh(plain_box(wide, high))])


def some_box(rng, wide, high):
    """A box of several pieces, turned and not."""
    return (written(wide), written(high), in_pieces(rng, plain_box(wide, high), rng.randrange(4)))


class Widened(SheetCase):
    def check(self, box, wide):
        with self.subTest(box=box, wide=wide):
            told = self.asked(widened, box, written(wide))
            self.assertBox(told)
            self.assertSame(told[:2], (written(wide), written(Fraction(*box[0]) * Fraction(*box[1]) / wide)))
            self.assertCutOf(told[2], box[2])
            return told

    def test_the_same_width(self):
        box = fresh_box(3, 2)
        self.assertEqual(plain_area(rings_in(self.check(box, Fraction(3))[2])), 6)
        for rng in numbers(10, "the same width"):
            wide = some_size(rng)
            self.check(some_box(rng, wide, some_size(rng)), wide)

    def test_to_other_widths(self):
        for wide in (1, 2, 3, 4, 5, 6, 7, 12, 24, Fraction(1, 2), Fraction(5, 3), Fraction(13, 2), Fraction(121, 20),
                     Fraction(119, 20), Fraction(599, 100), Fraction(601, 100), Fraction(301, 100), Fraction(299, 100)):
            self.check(fresh_box(6, 1), Fraction(wide))
            self.check(fresh_box(6, Fraction(22, 7)), Fraction(wide))

    def test_many_times_as_great_and_as_small(self):
        for wide in (60, Fraction(601, 10), Fraction(1, 60), Fraction(3, 179)):
            self.check(fresh_box(1, 3), Fraction(wide))

    def test_there_and_back(self):
        for rng in numbers(16, "there and back"):
            wide, high, other = (some_size(rng) for k in range(3))
            box = fresh_box(wide, high)
            led = widened(box, written(other))
            back = self.check(led, wide)
            self.assertSame(back[:2], box[:2])
            self.assertCutOf(back[2], box[2])

    def test_many(self):
        for rng in numbers(40, "widened"):
            wide, high, share = (some_size(rng, rng.choice((1, 2))) for k in range(3))
            if Fraction(1, 30) < share < 30:
                self.check(some_box(rng, wide, high), wide * share)

    def test_twelve_figures(self):
        for rng in numbers(8, "widened twelve"):
            wide, high = some_size(rng, 12), some_size(rng, 12)
            share = Fraction(rng.randint(10 ** 12, 10 ** 13), rng.randint(10 ** 12, 10 ** 13))
            self.check(fresh_box(wide, high), wide * share)


class Column(SheetCase):
    def check(self, boxes, wide):
        with self.subTest(boxes=boxes, wide=wide):
            told = self.asked(column, boxes, written(wide))
            self.assertBox(told)
            size = sum(Fraction(*broad) * Fraction(*high) for broad, high, sheet in boxes)
            self.assertSame(told[:2], (written(wide), written(size / wide)))
            self.assertCutOf(told[2], pieces_of(boxes))

    def test_no_boxes(self):
        for wide in ((1, 1), (22, 7)):
            self.assertSame(self.asked(column, [], wide), (wide, (0, 1), []))

    def test_one_box(self):
        for wide in (1, 2, 3, Fraction(7, 2)):
            self.check([fresh_box(2, 3)], Fraction(wide))

    def test_some_boxes(self):
        boxes = [fresh_box(2, 3), fresh_box(2, 1), fresh_box(5, Fraction(1, 3)), fresh_box(Fraction(1, 2), 4)]
        for wide in (1, 2, 5, Fraction(1, 3), Fraction(13, 4)):
            self.check(boxes, Fraction(wide))
            self.check(boxes[::-1], Fraction(wide))
            self.check(boxes[:2], Fraction(wide))

    def test_many(self):
        for rng in numbers(16, "column"):
            boxes = [some_box(rng, some_size(rng), some_size(rng)) for k in range(rng.randint(1, 5))]
            self.check(boxes, some_size(rng))


if __name__ == "__main__":
    unittest.main()
