"""Points 1, 2 and 3: what is promised over the whole program, and the names of its interface."""

import importlib
import inspect
import subprocess
import sys
import unittest
from fractions import Fraction
from pathlib import Path

from slidecut.checks import is_plan, joined, led_back
from slidecut.errors import NoPlan
from slidecut.finder import plan
from slidecut.marks import forbids, marks
from tests.helpers import numbers
from tests.laying import plain_led
from tests.planning import FLAT_LEANING_BOX, LEANING_BOX, SIX_SIDED, STAIRS, PlanCase, box_of_area, cut_apart
from tests.shapes import CLOTHS, box, plain_area, ring_of, slid_by, some_cloth, spread, turned_round, wedge

TOP = Path(__file__).resolve().parent.parent

# How many arguments each function of the interface takes.
INTERFACE = {
    "ratios": {"ratio": 2, "plus": 2, "minus": 2, "times": 2, "over": 2, "under": 2},
    "points": {
        "point": 3, "x_of": 1, "y_of": 1, "at": 2, "slid": 2, "step_to": 2, "turned": 1, "tilted": 2, "side": 3,
        "meet": 4,
    },
    "cloths": {"ring_area": 1, "is_cloth": 1, "area": 1, "stands": 2},
    "marks": {"way_of": 1, "marks": 1, "forbids": 3},
    "sheets": {"fresh": 1, "first_ring": 1, "cut_sheet": 3, "moved": 2, "half_turned": 1},
    "slabs": {"slab_ring": 1, "slabs": 1},
    "strips": {"box_ring": 2, "corner_ring": 3, "striped": 1},
    "pairs": {"split": 5, "paired": 3, "evened": 4},
    "widths": {"widened": 2, "column": 2},
    "overlays": {"common": 2, "laid_over": 2},
    "finder": {"plan": 3},
    "checks": {"is_plan": 4, "joined": 2, "led_back": 1},
    "texts": {"show_ratio": 1, "show_point": 1, "show_cloth": 1, "read_point": 1, "read_cloth": 1},
    "clerk": {"Clerk": 0},
}


def of_area(cloth, size):
    """The cloth, made so much higher that it has an area."""
    return spread(cloth, 1, Fraction(size) / plain_area(cloth))


POOL = [
    box_of_area(6, 2), box_of_area(6, 5), LEANING_BOX, FLAT_LEANING_BOX, STAIRS, of_area(SIX_SIDED, 6),
    of_area([wedge(0, 0, 3)], 6), turned_round(of_area([wedge(0, 0, 3)], 6)), of_area(CLOTHS["frame"], 6),
    of_area(CLOTHS["arrow"], 6), of_area(CLOTHS["leaning hole"], 6),
    [wedge(0, 0, 2), wedge(5, 0, 2), box(9, 9, 10, 11)],
    [ring_of((0, 0), (2, 0), (0, 2)), ring_of((9, 2), (7, 2), (9, 0)), box(3, 3, 5, 4)],
]


class Whole(PlanCase):
    def told(self, one, other, turning):
        """A plan that the checker lets by, or None where what forbids it is told."""
        why = forbids(one, other, turning)
        try:
            moves = plan(one, other, turning)
        except NoPlan as refusal:
            self.assertIsNotNone(why)
            self.assertSame(refusal.why, why)
            return None
        self.assertIsNone(why)
        self.assertIs(is_plan(one, other, moves, turning), True)
        if turning is False:
            self.assertNotIn(True, [move[1] for move in moves])
        return moves

    def test_just_one_of_two(self):
        many = {True: 0, False: 0}
        for one in POOL:
            for other in POOL:
                for turning in (False, True):
                    with self.subTest(one=one, other=other, turning=turning):
                        moves = self.told(one, other, turning)
                        many[moves is not None] += 1
                        if turning:
                            self.assertIsNotNone(moves)
        self.assertGreater(min(many.values()), 20)

    def test_areas_forbid_in_both_ways(self):
        for one, other in zip(POOL, POOL[1:]):
            greater = spread(other, Fraction(7, 6), 1)
            for turning in (False, True):
                self.assertIsNone(self.told(one, greater, turning))
                self.assertIsNone(self.told(greater, one, turning))
                self.assertIsNone(self.told(one, [], turning))

    def test_led_back(self):
        for one, other in zip(POOL, POOL[1:] + POOL[:1]):
            for turning in (False, True):
                moves = self.told(one, other, turning)
                if moves is not None:
                    self.assertIs(is_plan(other, one, led_back(moves), turning), True)

    def test_joined(self):
        for one, between, other in zip(POOL, POOL[1:] + POOL[:1], POOL[2:] + POOL[:2]):
            for turning in (False, True):
                first, second = self.told(one, between, turning), self.told(between, other, turning)
                if first is not None and second is not None:
                    moves = joined(first, second)
                    self.assertIs(is_plan(one, other, moves, turning), True)
                    self.assertIs(is_plan(other, one, led_back(moves), turning), True)

    def test_sliding_keeps_area_and_marks(self):
        for one in POOL:
            for other in POOL:
                if forbids(one, other, False) is None:
                    self.assertSame(marks(one), marks(other))
                    self.assertEqual(plain_area(one), plain_area(other))
        for rng in numbers(10, "kept marks"):
            one, other = cut_apart(rng)
            self.assertSame(marks(one), marks(other))

    def test_cut_and_slid_by_a_plan(self):
        # What a plan makes of a cloth is a cloth again, to which there is a plan, be its parts slid apart.
        for rng in numbers(4, "some wholes"):
            one = some_cloth(rng)
            moves = self.told(one, slid_by(one, 3, Fraction(1, 3)), False)
            self.assertEqual(plain_area([plain_led(move) for move in moves]), plain_area(one))

    def test_what_is_done_to_a_told_plan(self):
        one, other = STAIRS, box_of_area(6, 5)
        due = plan(one, other, False)
        told = plan(one, other, False)
        for move in told:
            move[0].clear()
        told.clear()
        self.assertSame(plan(one, other, False), due)
        self.asked(plan, one, other, True)
        self.asked(joined, due, plan(other, one, False))
        self.asked(led_back, due)
        self.asked(is_plan, one, other, due, False)


class Interface(unittest.TestCase):
    def test_names_and_arguments(self):
        for name, functions in INTERFACE.items():
            module = importlib.import_module(f"slidecut.{name}")
            for function, many in functions.items():
                with self.subTest(module=name, function=function):
                    given = getattr(module, function)
                    self.assertEqual(given.__module__, f"slidecut.{name}")
                    self.assertEqual(len(inspect.signature(given).parameters), many)

    def test_a_clerk_says(self):
        clerk = importlib.import_module("slidecut.clerk").Clerk()
        self.assertEqual(len(inspect.signature(clerk.say).parameters), 1)
        self.assertEqual(clerk.say("cloth a none"), "ok")

    def test_the_same_whatever_texts_are_hashed_by(self):
        deed = (
            "from slidecut.finder import plan\n"
            "from tests.shapes import CLOTHS, turned_round\n"
            "print(plan(CLOTHS['arrow'], turned_round(CLOTHS['arrow']), True))\n"
        )
        told = [
            subprocess.run(
                [sys.executable, "-c", deed], cwd=TOP, env={"PYTHONHASHSEED": seed, "PYTHONDONTWRITEBYTECODE": "1"},
                capture_output=True, check=True,
            ).stdout
            for seed in ("0", "1", "77")
        ]
        self.assertTrue(told[0])
        self.assertEqual(told[1:], told[:1] * 2)


if __name__ == "__main__":
    unittest.main()
