"""Points 25 and 26: the clerk's rows, and which refusal is due first."""

import unittest

from slidecut.clerk import Clerk
from slidecut.checks import is_plan
from slidecut.errors import CutError, NoCloth, NoMove, NoName, NoPlan, NoRow, NoText
from slidecut.finder import plan
from slidecut.marks import forbids
from slidecut.texts import read_cloth, read_point
from tests.helpers import KindCase, numbers, written
from tests.planning import STAIRS, box_of_area
from tests.shapes import CLOTHS, plain_area, some_cloth, turned_round
from tests.writing import NO_NUMBERS, plain_cloth, plain_ratio

WEDGE = "0,0 2,0 0,2"
TURNED_WEDGE = "0,0 -2,0 0,-2"
BOX = "0,0 2,0 2,1 0,1"
HIGH_BOX = "0,0 1,0 1,2 0,2"
GREAT_BOX = "0,0 2,0 2,2 0,2"


def clerk_of(**texts):
    """A clerk who keeps some cloths."""
    clerk = Clerk()
    for name, text in texts.items():
        clerk.say(f"cloth {name} {text}")
    return clerk


def move_of(text):
    """The move that an answer writes."""
    words = text.split(" ")
    is_turned = {"slid": False, "turned": True}[words[-2]]
    return ([read_point(word) for word in words[:-2]], is_turned, read_point(words[-1]))


class ClerkCase(KindCase):
    def answers(self, clerk, *rows):
        for row, due in rows:
            with self.subTest(row):
                self.assertSame(clerk.say(row), due)

    def refused(self, clerk, row, error, **fields):
        """That a row is refused, and that the clerk answers all else as ahead."""
        with self.subTest(row):
            ahead = self.known(clerk)
            with self.assertRaises(error) as caught:
                clerk.say(row)
            self.assertIs(type(caught.exception), error)
            self.assertIsInstance(caught.exception, CutError)
            for field, due in fields.items():
                self.assertSame(getattr(caught.exception, field), due)
            self.assertEqual(self.known(clerk), ahead)

    def known(self, clerk):
        """What a clerk answers of some names and moves."""
        told = []
        for row in [f"told {name}" for name in ("a", "b", "c", "z", "zz")] + [f"move {k}" for k in range(1, 6)]:
            try:
                told.append(clerk.say(row))
            except CutError as error:
                told.append(type(error))
        return told

    def plan_of(self, clerk, answer):
        """The moves of the plan that stands."""
        return [move_of(clerk.say(f"move {k}")) for k in range(1, int(answer) + 1)]


class Rows(ClerkCase):
    def test_cloth_and_told(self):
        clerk = Clerk()
        self.answers(
            clerk, (f"cloth a {BOX}", "ok"), ("told a", BOX), ("cloth b none", "ok"), ("told b", "none"),
            (f"cloth a {WEDGE}", "ok"), ("told a", WEDGE), ("told b", "none"),
            (f"cloth abcdefgh {BOX}; 5,5 6,5 5,6", "ok"),
            ("told abcdefgh", f"{BOX}; 5,5 6,5 5,6"), ("cloth cloth none", "ok"), ("told cloth", "none"),
        )

    def test_area(self):
        clerk = clerk_of(a=BOX, b="none", c="0,0 1,0 0,1/3")
        self.answers(clerk, ("area a", "2"), ("area b", "0"), ("area c", "1/6"))

    def test_marks(self):
        clerk = clerk_of(a=BOX, b="none", c=WEDGE, d="0,0 1,0 0,1/3")
        self.answers(
            clerk, ("marks a", "none"), ("marks b", "none"), ("marks c", "-1,1:2 0,1:-2 1,0:2"),
            ("marks d", "-3,1:1/3 0,1:-1/3 1,0:1"),
        )

    def test_forbids(self):
        clerk = clerk_of(a=BOX, b=HIGH_BOX, c=WEDGE, d=TURNED_WEDGE, e=GREAT_BOX, f="0,0 2,0 2,2", n="none")
        self.answers(
            clerk, ("forbids a b", "none"), ("forbids a c", "mark -1,1"), ("forbids c a", "mark -1,1"),
            ("forbids c d", "mark -1,1"), ("forbids a e", "area"), ("forbids a n", "area"), ("forbids n n", "none"),
            ("forbids a a", "none"), ("forbids f a", "mark 0,1"), ("forbids e a", "area"),
        )

    def check_plan(self, clerk, word, one, other):
        answer = clerk.say(f"{word} {one} {other}")
        moves = self.plan_of(clerk, answer)
        cloths = [read_cloth(clerk.say(f"told {name}")) for name in (one, other)]
        self.assertTrue(is_plan(cloths[0], cloths[1], moves, word == "turn"))
        self.assertSame(clerk.say(f"check {one} {other}"), "yes")
        self.refused(clerk, f"move {int(answer) + 1}", NoMove)
        return moves

    def test_slide_and_move_and_check(self):
        clerk = clerk_of(a=BOX, b=HIGH_BOX, s=plain_cloth(STAIRS), t=plain_cloth(box_of_area(6, 5)))
        for one, other in (("a", "b"), ("b", "a"), ("a", "a"), ("s", "t"), ("t", "s")):
            self.check_plan(clerk, "slide", one, other)
            self.check_plan(clerk, "turn", one, other)

    def test_moves_are_told_in_their_order(self):
        clerk = clerk_of(s=plain_cloth(STAIRS), t=plain_cloth(box_of_area(6, 5)))
        answer = clerk.say("slide s t")
        self.assertEqual(self.plan_of(clerk, answer), plan(STAIRS, box_of_area(6, 5), False))

    def test_turn(self):
        clerk = clerk_of(a=WEDGE, b=TURNED_WEDGE, c=BOX)
        for one, other in (("a", "b"), ("b", "a"), ("a", "c"), ("c", "b")):
            moves = self.check_plan(clerk, "turn", one, other)
            self.assertIn(True, [move[1] for move in moves])
            self.refused(clerk, f"slide {one} {other}", NoPlan)

    def test_the_form_of_a_move(self):
        clerk = clerk_of(a="0,0 1,0 0,1", b="1/2,0 3/2,0 1/2,1", c="0,0 -1,0 0,-1")
        self.answers(clerk, ("slide a b", "1"))
        text = clerk.say("move 1")
        corners = "0,0 1,0 0,1".split(" ")
        ways = [" ".join(corners[k:] + corners[:k]) + " slid 1/2,0" for k in range(3)]
        self.assertIn(text, ways)
        answer = clerk.say("turn a c")
        texts = [clerk.say(f"move {k}") for k in range(1, int(answer) + 1)]
        for text in texts:
            self.assertRegex(text, r"\A(\S+,\S+ ){3}(slid|turned) \S+,\S+\Z")
        self.assertTrue(any(" turned " in text for text in texts))

    def test_no_moves(self):
        clerk = clerk_of(n="none", m="none", a=BOX)
        for word in ("slide", "turn"):
            self.answers(clerk, (f"{word} n m", "0"), ("check n m", "yes"), ("check a a", "no"), ("check n a", "no"))
            self.refused(clerk, "move 1", NoMove)

    def test_check_asks_of_the_cloths_as_they_are_kept_now(self):
        clerk = clerk_of(a=BOX, b=HIGH_BOX, c=WEDGE)
        clerk.say("slide a b")
        self.answers(
            clerk, ("check a b", "yes"), ("check b a", "no"), ("check a c", "no"), (f"cloth b {WEDGE}", "ok"),
            ("check a b", "no"),
            (f"cloth b {HIGH_BOX}", "ok"), ("check a b", "yes"), (f"cloth d {HIGH_BOX}", "ok"), ("check a d", "yes"),
            ("cloth a 2,0 2,1 0,1 0,0", "ok"), ("check a b", "yes"), ("cloth a none", "ok"), ("check a b", "no"),
        )

    def test_check_lets_half_turns_in(self):
        clerk = clerk_of(a=WEDGE, b=TURNED_WEDGE)
        clerk.say("turn a b")
        self.answers(clerk, ("check a b", "yes"), ("check b b", "no"))

    def test_a_plan_stands_on(self):
        clerk = clerk_of(a=BOX, b=HIGH_BOX, c=WEDGE, e=GREAT_BOX)
        answer = clerk.say("slide a b")
        moves = self.plan_of(clerk, answer)
        self.refused(clerk, "slide a c", NoPlan, why=("mark", (-1, 1), (0, 1), (2, 1)))
        self.refused(clerk, "slide a e", NoPlan, why=("area", (2, 1), (4, 1)))
        self.refused(clerk, "turn a e", NoPlan, why=("area", (2, 1), (4, 1)))
        self.refused(clerk, "slide a z", NoName)
        self.assertEqual(self.plan_of(clerk, answer), moves)
        clerk.say(f"cloth a {WEDGE}")
        clerk.say("cloth b none")
        self.assertEqual(self.plan_of(clerk, answer), moves)
        self.assertNotEqual(self.plan_of(clerk, clerk.say("slide a a")), moves)

    def test_two_clerks(self):
        one, other = clerk_of(a=BOX, b=HIGH_BOX), clerk_of(a=WEDGE)
        self.answers(one, ("told a", BOX))
        self.answers(other, ("told a", WEDGE))
        one.say("slide a b")
        self.refused(other, "move 1", NoMove)
        self.refused(other, "check a a", NoMove)
        self.refused(other, "told b", NoName, name="b")
        third = Clerk()
        self.refused(third, "told a", NoName, name="a")
        self.refused(third, "move 1", NoMove)

    def test_some_cloths(self):
        for rng in numbers(6, "clerk"):
            one = some_cloth(rng)
            other = turned_round(one)
            clerk = clerk_of(one=plain_cloth(one), other=plain_cloth(other))
            self.answers(clerk, ("told one", plain_cloth(one)), ("area other", plain_ratio(plain_area(one))))
            why = forbids(one, other, False)
            self.answers(clerk, ("forbids one other", "none" if why is None else f"mark {why[1][0]},{why[1][1]}"))
            answer = clerk.say("turn one other")
            self.answers(clerk, ("check one other", "yes"))
            self.assertTrue(is_plan(one, other, self.plan_of(clerk, answer), True))

    def test_made_ones(self):
        for name in sorted(CLOTHS):
            cloth = CLOTHS[name]
            clerk = clerk_of(a=plain_cloth(cloth), b="none")
            self.answers(clerk, ("told a", plain_cloth(cloth)), ("area a", plain_ratio(plain_area(cloth))))
            if cloth:
                self.answers(clerk, ("forbids a b", "area"))
                self.refused(clerk, "turn a b", NoPlan, why=("area", written(plain_area(cloth)), (0, 1)))

    def test_numbers_of_many_figures(self):
        far = "9" * 30
        clerk = clerk_of(a=f"0,0 {far},0 0,1/{far}", b=f"1/7,-1/{far} {far},0 3,{far}")
        clerk.say("slide b b")
        self.answers(clerk, ("area a", "1/2"), ("check b b", "yes"), ("check a a", "no"))


class Refusals(ClerkCase):
    def setUp(self):
        self.clerk = clerk_of(a=BOX, b=HIGH_BOX, c=WEDGE)
        self.clerk.say("slide a b")

    def test_rows_without_a_form(self):
        for row in (
            "", " ", "foo", "foo a", "Cloth a none", "CLOTH a none", "cloths a none", "told", "told ", "told  a",
            " told a",
            "told a ", "told a b", "told  ", "area", "area a b", "area a ", "marks", "marks a a", "marks  a",
            "forbids", "forbids a",
            "forbids a b c", "forbids a  b", "forbids  a b", "forbids a b ", " forbids a b", "forbids a ", "slide",
            "slide a",
            "slide a b c", "slide a  b", "slide a b ", "turn", "turn a", "turn a b c", "turn a,b", "check", "check a",
            "check a b c",
            "check a b ", "move", "move ", "move  1", "move 1 ", " move 1", "move 1 2", "move a", "move -1",
            "move +1", "move 1/1",
            "move 1,0", "a", "a b", "told\ta", "told a\n", "toldb a", "none", "ok", "say told a", "slide a b\n",
            "move 1.0",
        ):
            self.refused(self.clerk, row, NoRow)

    def test_names(self):
        for name in (
            "", "A", "aB", "a1", "1", "a_b", "a-b", "a.b", "abcdefghi", "a" * 20, "a,", ";", "\u00e4", "a\u0301",
            "\u0430",
        ):
            for row in (
                f"cloth {name} {BOX}", f"told {name}", f"area {name}", f"marks {name}", f"forbids {name} a",
                f"forbids a {name}",
                f"slide {name} a", f"slide a {name}", f"turn {name} a", f"turn a {name}", f"check {name} a",
                f"check a {name}",
                f"slide z {name}", f"cloth {name} 0,0",
            ):
                self.refused(self.clerk, row, NoRow)

    def test_numbers_of_moves(self):
        for word in ("0", "00", "01", "001", "1000000", "0000001", "9999999", "1" * 30):
            self.refused(self.clerk, f"move {word}", NoRow)
            self.refused(Clerk(), f"move {word}", NoRow)
        for word in NO_NUMBERS:
            self.refused(self.clerk, f"move {word}", NoRow)
        for word in ("999999", "100000", "5", "12345"):
            self.refused(self.clerk, f"move {word}", NoMove)
            self.refused(Clerk(), f"move {word}", NoMove)

    def test_cloth_with_nothing_behind(self):
        for name in ("a", "zz", "abcdefgh"):
            self.refused(self.clerk, f"cloth {name}", NoRow)
            self.refused(self.clerk, f"cloth {name} ", NoRow)
            with self.assertRaises((NoRow, NoText)):
                self.clerk.say(f"cloth {name}  ")
        for row in (
            "cloth", "cloth ", "cloth  ", "cloth  a", f"cloth  {BOX}", f"cloth  a {BOX}", f" cloth a {BOX}",
            f"cloth {BOX}",
        ):
            self.refused(self.clerk, row, NoRow)

    def test_texts(self):
        for text in (
            "0", "0,0 ", f"{BOX} ", f"{BOX};", f"{BOX}; ", "none ", "None", "none none", f"none; {BOX}",
            "0,0  1,0 0,1", "0,0 1,0 0,01",
            "0,0 1,0 0,2/2", "0,0 1,0 0,-0", f"0,0 1,0 0,{10 ** 30}", "0,0; 0", "a", "0,0 1,0 0,+1",
        ):
            self.refused(self.clerk, f"cloth a {text}", NoText)
            self.refused(self.clerk, f"cloth z {text}", NoText)
        for text in (
            "0,0", "0,0 1,0", "0,0 0,1 1,0", "0,0 2,2 2,0 0,2", f"{BOX}; 1,0 3,0 1,1", f"{BOX}; 0,0", "0,0 1,0 2,0",
        ):
            self.refused(self.clerk, f"cloth a {text}", NoCloth)
            self.refused(self.clerk, f"cloth z {text}", NoCloth)
        self.answers(self.clerk, ("told a", BOX))

    def test_names_by_which_nothing_is_kept(self):
        for row in (
            "told z", "area z", "marks z", "forbids z a", "forbids a z", "forbids z y", "slide z a", "slide a z",
            "slide z y", "turn z a", "turn a z", "turn z zz", "check z a", "check a z", "check z y", "check z z",
        ):
            self.refused(self.clerk, row, NoName, name="z")
            if "a" not in row.split(" ")[1:]:
                self.refused(Clerk(), row, NoName, name="z")
        self.refused(Clerk(), "check a b", NoName, name="a")
        self.refused(Clerk(), "slide cloth told", NoName, name="cloth")

    def test_names_are_due_ahead_of_moves_and_plans(self):
        clerk = clerk_of(a=BOX, e=GREAT_BOX)
        self.refused(clerk, "check a z", NoName, name="z")
        self.refused(clerk, "check a e", NoMove)
        self.refused(clerk, "check a a", NoMove)
        self.refused(clerk, "slide a e", NoPlan, why=("area", (2, 1), (4, 1)))
        self.refused(clerk, "slide z e", NoName, name="z")
        self.refused(clerk, "move 1", NoMove)

    def test_a_refused_cloth_leaves_the_elder_one(self):
        self.refused(self.clerk, "cloth a 0,0", NoCloth)
        self.refused(self.clerk, "cloth a 0", NoText)
        self.refused(self.clerk, "cloth a", NoRow)
        self.answers(self.clerk, ("told a", BOX), ("check a b", "yes"))
        self.refused(self.clerk, "cloth new 0,0", NoCloth)
        self.refused(self.clerk, "told new", NoName, name="new")

    def test_moves_beyond_the_plan(self):
        answer = int(self.clerk.say("slide a b"))
        self.assertTrue(self.clerk.say(f"move {answer}"))
        self.refused(self.clerk, f"move {answer + 1}", NoMove)
        self.refused(self.clerk, "move 999999", NoMove)


if __name__ == "__main__":
    unittest.main()
