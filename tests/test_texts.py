"""Point 24: ratios, points and cloths written as texts, and read again."""

import unittest
from fractions import Fraction

from slidecut.errors import CutError, NoCloth, NoText
from slidecut.texts import read_cloth, read_point, show_cloth, show_point, show_ratio
from tests.helpers import MOST, KindCase, flat, numbers, some_point, written
from tests.shapes import CLOTHS, back, box, corner, slid_by, some_cloth, spread, wedge
from tests.writing import NO_NUMBERS, NUMBERS, plain_cloth, plain_point, plain_ratio


class TextCase(KindCase):
    def refused(self, deed, text, error):
        with self.subTest(deed=deed.__name__, text=text):
            with self.assertRaises(error) as caught:
                deed(text)
            self.assertIs(type(caught.exception), error)
            self.assertIsInstance(caught.exception, CutError)


class ShowRatio(TextCase):
    def test_told_ones(self):
        for one, due in (
            ((0, 1), "0"), ((1, 1), "1"), ((-1, 1), "-1"), ((12, 1), "12"), ((1, 2), "1/2"), ((-1, 2), "-1/2"),
            ((-22, 7), "-22/7"), ((10, 9), "10/9"), ((MOST, 1), "9" * 30), ((-1, MOST), "-1/" + "9" * 30),
            ((-100, 1), "-100"), ((1, 10 ** 29), "1/1" + "0" * 29),
        ):
            with self.subTest(one):
                self.assertSame(show_ratio(one), due)

    def test_many(self):
        for rng in numbers(100, "show ratios"):
            value = flat(some_point(rng))[0]
            self.assertSame(show_ratio(written(value)), plain_ratio(value))

    def test_numbers_of_many_figures(self):
        for many in (31, 63, 64, 65, 127, 128, 129, 200, 1000, 4000):
            for digits in ("9" * many, "1" + "0" * many, "12" * many, "1" + "0" * (many - 1) + "7"):
                digits = digits[:4200]
                number = int(digits)
                self.assertSame(show_ratio((number, 1)), digits)
                self.assertSame(show_ratio((-number, 1)), "-" + digits)
                self.assertSame(show_ratio((1, number)), "1/" + digits)

    def test_numbers_that_python_itself_does_not_write(self):
        number = 7
        for k in range(12000):
            number = number * 10 + k % 10
        due = "7" + "".join(str(k % 10) for k in range(12000))
        self.assertSame(show_ratio((number, 1)), due)
        self.assertSame(show_ratio((-1, number)), "-1/" + due)


class ShowPoint(TextCase):
    def test_told_ones(self):
        for p, due in (
            ((0, 0, 1), "0,0"), ((1, 2, 1), "1,2"), ((-1, 2, 3), "-1/3,2/3"), ((1, 2, 2), "1/2,1"),
            ((0, -5, 10), "0,-1/2"),
            ((2, 3, 6), "1/3,1/2"), ((-7, -7, 1), "-7,-7"),
        ):
            with self.subTest(p):
                self.assertSame(show_point(p), due)

    def test_many(self):
        for rng in numbers(100, "show points"):
            p = some_point(rng)
            self.assertSame(show_point(p), plain_point(p))


class ReadPoint(TextCase):
    def test_told_ones(self):
        for text, due in (
            ("0,0", (0, 0, 1)), ("1,2", (1, 2, 1)), ("-1/3,2/3", (-1, 2, 3)), ("1/2,1", (1, 2, 2)),
            ("1/3,1/2", (2, 3, 6)),
            ("0,-1/2", (0, -1, 2)),
        ):
            with self.subTest(text):
                self.assertSame(read_point(text), due)

    def test_numbers(self):
        for one in NUMBERS:
            for other in NUMBERS:
                text = f"{one},{other}"
                self.assertSame(read_point(text), corner(Fraction(one), Fraction(other)))
                self.assertSame(show_point(read_point(text)), text)

    def test_written_and_read_again(self):
        for rng in numbers(150, "read points"):
            x, y = (Fraction(rng.randint(-MOST, MOST), rng.randint(1, MOST)) for k in range(2))
            p = corner(x, y)
            self.assertSame(read_point(show_point(p)), p)

    def test_refused(self):
        for one in NO_NUMBERS:
            for text in (f"{one},0", f"0,{one}", f"{one},{one}"):
                self.refused(read_point, text, NoText)
        for text in (
            "", " ", ",", "1", "1,", ",1", "1,2,3", "1,,2", "1;2", "1 2", "1, 2", "1 ,2", " 1,2", "1,2 ", "1,2;",
            "(1,2)", "none",
            "1,2 3,4", "1/2", "1.5,2", "1,2\n",
        ):
            self.refused(read_point, text, NoText)


class ShowCloth(TextCase):
    def test_told_ones(self):
        self.assertSame(self.asked(show_cloth, []), "none")
        self.assertSame(self.asked(show_cloth, [wedge(0, 0, 1)]), "0,0 1,0 0,1")
        self.assertSame(
            self.asked(show_cloth, [box(0, 0, 3, 3), back(box(1, 1, 2, Fraction(3, 2)))]),
            "0,0 3,0 3,3 0,3; 1,3/2 2,3/2 2,1 1,1",
        )

    def test_many(self):
        for cloth in list(CLOTHS.values()) + [some_cloth(rng, 2) for rng in numbers(20, "show cloths")]:
            self.assertSame(self.asked(show_cloth, cloth), plain_cloth(cloth))


class ReadCloth(TextCase):
    def test_told_ones(self):
        self.assertSame(self.asked(read_cloth, "none"), [])
        self.assertSame(self.asked(read_cloth, "0,0 1,0 0,1"), [wedge(0, 0, 1)])
        self.assertSame(
            self.asked(read_cloth, "0,0 3,0 3,3 0,3; 1,3/2 2,3/2 2,1 1,1"),
            [box(0, 0, 3, 3), back(box(1, 1, 2, Fraction(3, 2)))],
        )

    def test_written_and_read_again(self):
        cloths = list(CLOTHS.values()) + [some_cloth(rng, 2) for rng in numbers(20, "read cloths")]
        cloths += [spread(CLOTHS["island"], 10 ** 28, Fraction(1, MOST)), slid_by(CLOTHS["comb"], 10 ** 29, 0)]
        for cloth in cloths:
            with self.subTest(cloth):
                self.assertSame(self.asked(read_cloth, show_cloth(cloth)), cloth)

    def test_no_texts(self):
        ring = "0,0 1,0 0,1"
        other = "5,5 6,5 5,6"
        for text in (
            "", " ", ";", "; ", " none", "none ", "None", "NONE", "none none", "none; none", f"none; {ring}",
            f"{ring}; none",
            f" {ring}", f"{ring} ", f"{ring};", f"{ring}; ", f";{ring}", f"; {ring}", f"{ring};{other}",
            f"{ring} ; {other}",
            f"{ring};  {other}", f"{ring}; ; {other}", f"{ring};; {other}", f"{ring}, {other}", f"{ring}\n",
            "0,0  1,0 0,1",
            "0,0 1,0  0,1", "0,0,1,0 0,1", "0,01,0 0,1", "0,0 1,0 0,1 0", "0,0 1,0 0,01", "0 0 1 0 0 1",
            "(0,0) (1,0) (0,1)",
            "0,0\t1,0\t0,1", "0,0 1,0 0,2/2", "0,0 1,0 0,-0", "0,0 +1,0 0,1", f"0,0 1,0 0,{10 ** 30}", "0,0 1,0 none",
            "0,0 1,0 0,1;5,5",
        ):
            self.refused(read_cloth, text, NoText)
        for one in NO_NUMBERS:
            self.refused(read_cloth, f"0,0 1,0 0,{one}", NoText)
            self.refused(read_cloth, f"0,0 1,0 {one},1; {other}", NoText)

    def test_no_cloths(self):
        for text in (
            "0,0", "0,0 1,0", "0,0 1,0; 5,5 6,5 5,6", "5,5 6,5 5,6; 0,0", "0,0 1,0 2,0", "0,0 0,1 1,0",
            "0,0 1,0 0,1 0,0",
            "0,0 2,2 2,0 0,2", "0,0 1,0 0,1; 0,0 1,0 0,1", "0,0 3,0 3,3 0,3; 1,1 2,1 2,2 1,2",
            "0,0 1,0 0,1; 1,0 2,0 1,1",
            "; ".join(f"{3 * k},0 {3 * k + 1},0 {3 * k},1" for k in range(9)),
            " ".join(f"{k},{k * k}" for k in range(25)),
        ):
            self.refused(read_cloth, text, NoCloth)

    def test_a_text_is_due_ahead_of_a_cloth(self):
        for text in ("0,0; 0,00", "0,0 1,0; ", "0,0 0,1 1,0; 1", "0,0 1,0 2,0 "):
            self.refused(read_cloth, text, NoText)

    def test_the_most(self):
        text = " ".join(f"{k},{k * k}" for k in range(24))
        self.assertEqual(len(read_cloth(text)[0]), 24)
        text = "; ".join(f"{3 * k},0 {3 * k + 1},0 {3 * k},1" for k in range(8))
        self.assertEqual(len(read_cloth(text)), 8)
        far = "9" * 30
        self.assertSame(read_cloth(f"0,0 {far},0 0,1/{far}"), [[(0, 0, 1), (MOST, 0, 1), (0, 1, MOST)]])


if __name__ == "__main__":
    unittest.main()
