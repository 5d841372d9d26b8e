"""Points 22 and 23: whether moves are a plan; plans joined and led back."""

import unittest
from fractions import Fraction

from slidecut.checks import is_plan, joined, led_back
from slidecut.finder import plan
from tests.helpers import MOST, numbers
from tests.laying import midst, plain_led, plain_parts, some_step
from tests.planning import (
    FLAT_LEANING_BOX, LEANING_BOX, STAIRS, PlanCase, box_of_area, by_hand, cut_apart, goes, halves,
)
from tests.shapes import (
    CLOTHS, back, box, corner, from_corner, led, plain_area, ring_of, slid_by, some_cloth, turned_round, wedge,
)

STAYS = (0, 0, 1)


def plain_is_plan(one, other, moves, turning):
    """Whether some moves are a plan."""
    for ring, is_turned, step in moves:
        if len(ring) != 3 or plain_area([ring]) <= 0 or (is_turned and not turning):
            return False
    return plain_parts([move[0] for move in moves], one) and plain_parts([plain_led(move) for move in moves], other)


class IsPlan(PlanCase):
    def check(self, one, other, moves, turning, due):
        with self.subTest(one=one, other=other, moves=moves, turning=turning):
            self.assertSame(self.asked(is_plan, one, other, moves, turning), due)
            self.assertSame(plain_is_plan(one, other, moves, turning), due)

    def check_both(self, one, other, moves, due):
        for turning in (False, True):
            self.check(one, other, moves, turning, due)

    # Two boxes side by side, laid one on the other.
    WIDE = [box(0, 0, 2, 1)]
    HIGH = [box(5, 5, 6, 7)]

    def wide_to_high(self):
        low, above = halves(0, 0, 1, 1), halves(1, 0, 2, 1)
        return by_hand((low[0], 5, 5), (low[1], 5, 5), (above[0], 4, 6), (above[1], 4, 6))

    def test_by_hand(self):
        moves = self.wide_to_high()
        self.check_both(self.WIDE, self.HIGH, moves, True)
        self.check_both(self.HIGH, self.WIDE, moves, False)
        self.check_both(self.WIDE, self.WIDE, moves, False)
        self.check_both(self.HIGH, self.HIGH, moves, False)

    def test_no_moves(self):
        self.check_both([], [], [], True)
        self.check_both(self.WIDE, self.WIDE, [], False)
        self.check_both([], self.WIDE, [], False)
        self.check_both(self.WIDE, [], [], False)
        self.check_both([], [], by_hand((wedge(0, 0, 1), 0, 0)), False)
        self.check_both([], [wedge(0, 0, 1)], by_hand((wedge(0, 0, 1), 0, 0)), False)
        self.check_both([wedge(0, 0, 1)], [], by_hand((wedge(0, 0, 1), 0, 0)), False)

    def test_in_any_order_and_from_any_corner(self):
        for rng in numbers(12, "any order"):
            moves = self.wide_to_high()
            rng.shuffle(moves)
            moves = [(from_corner(ring, rng.randrange(3)), is_turned, step) for ring, is_turned, step in moves]
            self.check_both(self.WIDE, self.HIGH, moves, True)

    def test_moves_left_out_and_told_twice(self):
        moves = self.wide_to_high()
        for k in range(4):
            self.check_both(self.WIDE, self.HIGH, moves[:k] + moves[k + 1:], False)
            self.check_both(self.WIDE, self.HIGH, moves + [moves[k]], False)
            self.check_both(self.WIDE, self.HIGH, moves[:k] + [moves[k - 1]] + moves[k + 1:], False)
        self.check_both(self.WIDE, self.HIGH, moves + moves, False)

    def test_steps_changed(self):
        moves = self.wide_to_high()
        for k in range(4):
            for step in ((0, 0, 1), (4, 5, 1), (5, 6, 1), (-5, -5, 1), (5 * MOST + 1, 5 * MOST, MOST)):
                ring, is_turned, elder = moves[k]
                if step != elder:
                    self.check_both(self.WIDE, self.HIGH, moves[:k] + [(ring, is_turned, step)] + moves[k + 1:], False)

    def test_one_slid_on_another(self):
        low, above = halves(0, 0, 1, 1), halves(1, 0, 2, 1)
        moves = by_hand((low[0], 5, 5), (low[1], 5, 5), (above[0], 4, 5), (above[1], 4, 6))
        self.check_both(self.WIDE, self.HIGH, moves, False)
        moves = by_hand((low[0], 5, 5), (low[1], 5, 5), (above[0], 4, 5), (above[1], 4, 5))
        self.check_both(self.WIDE, self.HIGH, moves, False)
        self.check_both(self.WIDE, [box(5, 5, 6, 6)], moves, False)

    def test_half_turns(self):
        one, other = [wedge(0, 0, 2)], [ring_of((5, 5), (3, 5), (5, 3))]
        moves = by_hand((wedge(0, 0, 2), 5, 5, True))
        self.check(one, other, moves, True, True)
        self.check(one, other, moves, False, False)
        self.check_both(one, other, by_hand((wedge(0, 0, 2), 5, 5)), False)
        self.check_both(one, other, by_hand((wedge(0, 0, 2), 3, 3)), False)
        self.check_both(one, other, by_hand((wedge(0, 0, 2), 5, 4, True)), False)
        # A box turned half round lies as it lay, but the move is still turned.
        low, above = halves(0, 0, 2, 2)
        moves = by_hand((low, 2, 2, True), (above, 2, 2, True))
        self.check([box(0, 0, 2, 2)], [box(0, 0, 2, 2)], moves, True, True)
        self.check([box(0, 0, 2, 2)], [box(0, 0, 2, 2)], moves, False, False)
        self.check([box(0, 0, 2, 2)], [box(0, 0, 2, 2)], moves[:1] + by_hand((above, 0, 0)), True, False)

    def test_rings_that_are_none(self):
        moves = self.wide_to_high()
        for ring in (
            [], [corner(0, 0)], [corner(0, 0), corner(1, 0)], ring_of((0, 0), (1, 0), (2, 0)),
            ring_of((0, 0), (1, 0), (1, 0)), ring_of((0, 0), (0, 0), (0, 0)), back(moves[0][0]), box(0, 0, 1, 1),
            ring_of((0, 0), (1, 0), (1, 1), (0, 0)), ring_of((0, 0), (Fraction(1, 2), 0), (1, 0), (1, 1)),
        ):
            self.check_both(self.WIDE, self.HIGH, [(ring, False, (5, 5, 1))] + moves[1:], False)
            self.check_both(self.WIDE, self.HIGH, moves + [(ring, False, (5, 5, 1))], False)
            self.check_both([], [], [(ring, False, STAYS)], False)
        # Two of them that would do together, were it for the sides alone.
        fold = [(wedge(9, 9, 1), False, STAYS), (back(wedge(9, 9, 1)), False, STAYS)]
        self.check_both(self.WIDE, self.HIGH, moves + fold, False)
        self.check_both([], [], fold, False)
        whole = [(box(0, 0, 1, 1), False, (5, 5, 1)), (box(1, 0, 2, 1), False, (4, 6, 1))]
        self.check_both(self.WIDE, self.HIGH, whole, False)

    def test_into_a_hole_and_out_of_the_cloth(self):
        frame = [box(0, 0, 3, 3), back(box(1, 1, 2, 2))]
        rings = [ring for x in range(3) for y in range(3) if (x, y) != (1, 1) for ring in halves(x, y, x + 1, y + 1)]
        stays = [(ring, False, STAYS) for ring in rings]
        self.check_both(frame, frame, stays, True)
        for right, up in ((1, 1), (-1, 0), (0, -7), (2, 2)):
            slid = [(ring, False, corner(right, up)) for ring in rings[:2]]
            self.check_both(frame, frame, slid + stays[2:], False)
        # As much area, but with the hole filled and a corner free.
        filled = [(ring, False, STAYS) for ring in halves(1, 1, 2, 2)]
        self.check_both(frame, frame, filled + stays[2:], False)
        self.check_both([box(0, 0, 3, 3)], [box(0, 0, 3, 3)], stays, False)
        self.check_both([box(0, 0, 3, 3)], [box(0, 0, 3, 3)], filled + stays, True)

    def test_as_much_area_but_not_the_cloth(self):
        for other in ([box(0, 0, 1, 2)], [box(0, 0, 2, 1)], [wedge(0, 0, 2)], [box(1, 0, 3, 1)]):
            moves = [(ring, False, STAYS) for ring in halves(0, 0, 2, 1)]
            self.check_both([box(0, 0, 2, 1)], other, moves, other == [box(0, 0, 2, 1)])
            self.check_both(other, [box(0, 0, 2, 1)], moves, other == [box(0, 0, 2, 1)])

    def test_sides_on_one_another_in_part(self):
        # The low half is cut in two, the high one in three, at unlike places of the line between.
        low = [ring_of((0, 0), (2, 0), (0, 1)), ring_of((2, 0), (6, 0), (6, 1)), ring_of((2, 0), (6, 1), (0, 1))]
        high = [
            ring_of((0, 1), (3, 1), (0, 2)), ring_of((3, 1), (4, 1), (0, 2)), ring_of((4, 1), (6, 1), (6, 2)),
            ring_of((4, 1), (6, 2), (0, 2)),
        ]
        moves = [(ring, False, STAYS) for ring in low + high]
        self.check_both([box(0, 0, 6, 2)], [box(0, 0, 6, 2)], moves, True)
        self.check_both([ring_of((0, 0), (1, 0), (6, 0), (6, 2), (5, 2), (0, 2))], [box(0, 0, 6, 2)], moves, True)
        for k in range(len(moves)):
            self.check_both([box(0, 0, 6, 2)], [box(0, 0, 6, 2)], moves[:k] + moves[k + 1:], False)
        slid = [(ring, False, STAYS) for ring in low] + [(ring, False, (7, 0, 1)) for ring in high]
        self.check_both([box(0, 0, 6, 2)], [box(0, 0, 6, 1), box(7, 1, 13, 2)], slid, True)
        self.check_both([box(0, 0, 6, 2)], [box(0, 0, 6, 1), box(7, 0, 13, 1)], slid, False)

    def test_corners_in_the_cloth_sides(self):
        ring = wedge(0, 0, 2)
        parted = ring_of((0, 0), (1, 0), (2, 0), (1, 1), (0, 2), (0, 1))
        for one in ([ring], [parted]):
            for other in ([ring], [parted]):
                self.check_both(one, other, [(ring, False, STAYS)], True)

    def test_cloths_that_touch_at_ends_of_the_sides_lines(self):
        # On one line the sides of two parts, one gone ahead and the other back, are no gap between them.
        one = [box(0, 0, 1, 1), box(0, 2, 1, 3)]
        moves = [(ring, False, STAYS) for ring in halves(0, 0, 1, 1) + halves(0, 2, 1, 3)]
        self.check_both(one, one, moves, True)
        self.check_both(one, [box(0, 0, 1, 3)], moves, False)

    def test_told_plans_spoilt(self):
        for rng in numbers(10, "spoilt plans"):
            one, other = cut_apart(rng)
            moves = plan(one, other, False)
            if len(moves) > 250:
                continue
            self.check(one, other, moves, False, True)
            k = rng.randrange(len(moves))
            ring, is_turned, step = moves[k]
            for spoilt in (
                (ring, is_turned, some_step(rng)), (ring, True, step), (back(ring), is_turned, step),
                (slid_by([ring], Fraction(1, 9), 0)[0], is_turned, step), moves[k - 1], (ring[:2], is_turned, step),
                (led([ring], lambda x, y: (2 * x, 2 * y))[0], is_turned, step),
            ):
                if spoilt != moves[k]:
                    self.check(one, other, moves[:k] + [spoilt] + moves[k + 1:], False, False)
            self.check(one, other, moves[:k] + moves[k + 1:], True, False)

    def test_thirty_figures(self):
        far = Fraction(MOST, 7)
        one, other = [box(0, 0, Fraction(2, MOST), 1)], [box(far, far, far + Fraction(2, MOST), far + 1)]
        moves = [(ring, False, corner(far, far)) for ring in halves(0, 0, Fraction(2, MOST), 1)]
        self.check_both(one, other, moves, True)
        moves[0] = (moves[0][0], False, corner(far, far + Fraction(1, MOST)))
        self.check_both(one, other, moves, False)


class JoinedCase(PlanCase):
    def check_joined(self, cloths, plans, turning):
        """Two plans of three cloths, joined: each point goes as by the one and then the other."""
        first, second = plans
        with self.subTest(cloths=cloths, plans=plans):
            told = self.asked(joined, first, second)
            self.assertPlan(cloths[0], cloths[2], told, turning)
            for move in told:
                p = midst(move[0])
                (between, once), = goes(first, p)
                (after, twice), = goes(second, between)
                self.assertEqual(goes(told, p), [(after, once is not twice)])
            return told

    def check_back(self, one, other, moves, turning):
        """A plan, led back: each point goes where it came from."""
        with self.subTest(one=one, other=other, moves=moves):
            told = self.asked(led_back, moves)
            self.assertPlan(other, one, told, turning)
            again = led_back(told)
            self.assertPlan(one, other, again, turning)
            for move in moves:
                p = midst(move[0])
                (after, is_turned), = goes(moves, p)
                self.assertEqual(goes(told, after), [(p, is_turned)])
                self.assertEqual(goes(again, p), [(after, is_turned)])


class Joined(JoinedCase):
    def test_no_moves(self):
        self.assertSame(self.asked(joined, [], []), [])

    def test_by_hand(self):
        first = by_hand(*((ring, 5, 5) for ring in halves(0, 0, 2, 2)))
        second = by_hand((ring_of((5, 5), (7, 5), (5, 7)), 1, 0), (ring_of((7, 5), (7, 7), (5, 7)), 3, 3))
        cloths = ([box(0, 0, 2, 2)], [box(5, 5, 7, 7)], [wedge(6, 5, 2), ring_of((10, 8), (10, 10), (8, 10))])
        told = self.check_joined(cloths, (first, second), False)
        self.assertEqual({move[2] for move in told}, {(6, 5, 1), (8, 8, 1)})

    def test_half_turns(self):
        ring = wedge(0, 0, 2)
        there = turned_round(slid_by([ring], -5, -3))[0]
        for once in (False, True):
            for twice in (False, True):
                first = [(ring, once, (5, 3, 1))]
                between = plain_led(first[0])
                second = [(from_corner(between, 1), twice, (1, -4, 3))]
                cloths = ([ring], [between], [plain_led(second[0])])
                told = self.check_joined(cloths, (first, second), True)
                self.assertEqual({move[1] for move in told}, {once is not twice})
        self.assertEqual(plain_led((ring, True, (5, 3, 1))), there)

    def test_told_plans(self):
        for cloths, turning in (
            ((LEANING_BOX, box_of_area(6, 2), FLAT_LEANING_BOX), False), ((STAIRS, LEANING_BOX, STAIRS), False),
            ((box_of_area(6, 2), box_of_area(6, 5), box_of_area(6, 3)), False),
            (([wedge(0, 0, 2)], box_of_area(2, 2), turned_round([wedge(0, 0, 2)])), True),
            ((CLOTHS["two apart"], box_of_area(plain_area(CLOTHS["two apart"])), CLOTHS["two apart"]), True),
        ):
            first, second = plan(cloths[0], cloths[1], turning), plan(cloths[1], cloths[2], turning)
            self.check_joined(cloths, (first, second), turning)

    def test_there_and_back_all_stays(self):
        one, other = STAIRS, box_of_area(6, 2)
        moves = plan(one, other, False)
        told = joined(moves, led_back(moves))
        self.assertPlan(one, one, told, False)
        self.assertEqual({move[1:] for move in told}, {(False, STAYS)})

    def test_many(self):
        for rng in numbers(6, "joined"):
            one, other = cut_apart(rng)
            first, second = plan(other, one, False), plan(one, other, False)
            if len(first) > 300:
                continue
            told = joined(first, second)
            self.assertPlan(other, other, told, False)
            for move in told[::20]:
                p = midst(move[0])
                self.assertEqual(goes(second, goes(first, p)[0][0]), goes(told, p))


class LedBack(JoinedCase):
    def test_no_moves(self):
        self.assertSame(self.asked(led_back, []), [])

    def test_by_hand(self):
        ring = wedge(0, 0, 2)
        for is_turned, step, back_step in ((False, (5, 3, 1), (-5, -3, 1)), (True, (5, 3, 1), (5, 3, 1))):
            moves = [(ring, is_turned, step)]
            self.check_back([ring], [plain_led(moves[0])], moves, True)
            told = led_back(moves)
            self.assertSame(told[0][1:], (is_turned, back_step))

    def test_told_plans(self):
        for one, other, turning in (
            (LEANING_BOX, box_of_area(6, 2), False), (STAIRS, FLAT_LEANING_BOX, False),
            ([wedge(0, 0, 2)], box_of_area(2, 2), True), (CLOTHS["fine"], turned_round(CLOTHS["fine"]), True),
            (CLOTHS["frame"], box_of_area(30, 4), False),
        ):
            self.check_back(one, other, plan(one, other, turning), turning)

    def test_some_cloths(self):
        for rng in numbers(2, "led back"):
            one = some_cloth(rng)
            other = turned_round(one)
            self.assertPlan(other, one, led_back(plan(one, other, True)), True)


if __name__ == "__main__":
    unittest.main()
