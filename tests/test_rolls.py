"""Promise [10], and [2] as far as it speaks of rolls.py."""

import math
import unittest

from ownturn.orders import back_of, off, put
from ownturn.plans import by_rings, fewest_moves, fewest_swaps
from ownturn.rings import rings
from ownturn.rolls import (
    exchange_order, exchange_plan, roll_by_swaps, roll_by_turns, roll_order, roll_rings, turn_plan,
)
from ownturn.walking import deeds_of, shows_plan, walked

from samples import LONGEST, all_apart

SMALL = [(n, k) for n in range(10) for k in range(-2 * n - 3, 2 * n + 4)]
LARGE = [
    (n, k) for n in (360, 397, 399, LONGEST)
    for k in (0, 1, -1, 2, 8, 90, 199, 200, 256, n - 1, n, n + 1, -n, 3 * n, 10 ** 18, -(10 ** 18), 10 ** 18 - 7)
]
STRETCHES = [
    (begin, middle, end) for begin in range(5) for middle in range(begin, 9) for end in range(middle, 10)
]
LONG_STRETCHES = [
    (0, 0, 0), (0, 0, LONGEST), (0, LONGEST, LONGEST), (0, 1, LONGEST), (0, 399, LONGEST), (0, 160, LONGEST),
    (0, 200, LONGEST), (13, 100, 399), (100, 175, 300), (LONGEST, LONGEST, LONGEST), (398, 399, LONGEST),
]


def rolled(row, k):
    """The row rolled step by step: the last goes first, k times, or the first last."""
    row = list(row)
    for step in range(abs(k) % max(len(row), 1)):
        row = row[-1:] + row[:-1] if k > 0 else row[1:] + row[:1]
    return row


class RollOrder(unittest.TestCase):

    def test_written_out(self):
        for n, k, order in [
            (0, 0, []), (0, 5, []), (0, -1, []), (1, 0, [0]), (1, 7, [0]), (1, -7, [0]), (2, 1, [1, 0]), (2, -1, [1, 0]),
            (5, 2, [2, 3, 4, 0, 1]), (5, -2, [3, 4, 0, 1, 2]), (5, 7, [2, 3, 4, 0, 1]), (5, 5, [0, 1, 2, 3, 4]),
            (4, -9, [3, 0, 1, 2]), (3, 10 ** 18, [1, 2, 0]), (3, -(10 ** 18), [2, 0, 1]),
        ]:
            told = roll_order(n=n, k=k)
            self.assertEqual(told, order)
            self.assertIsInstance(told, list)

    def test_things_go_on(self):
        for n, k in SMALL + LARGE:
            row = list(range(n))
            self.assertEqual(put(row, roll_order(n, k)), rolled(row, k), (n, k))
            self.assertEqual(roll_order(n, -k), back_of(roll_order(n, k)))


class RollRings(unittest.TestCase):

    def test_written_out(self):
        for n, k, pair in [
            (0, 0, (0, 0)), (0, 3, (0, 0)), (0, -3, (0, 0)), (1, 0, (0, 0)), (1, 5, (0, 0)), (6, 0, (0, 0)),
            (6, 6, (0, 0)), (6, -12, (0, 0)), (6, 1, (1, 6)), (6, -1, (1, 6)), (6, 4, (2, 3)), (6, -4, (2, 3)),
            (6, 3, (3, 2)), (6, 9, (3, 2)), (6, 10, (2, 3)), (6, 8, (2, 3)), (LONGEST, 160, (80, 5)),
            (LONGEST, 1, (1, LONGEST)), (LONGEST, 10 ** 18, (0, 0)), (LONGEST, 10 ** 18 - 50, (50, 8)),
        ]:
            told = roll_rings(n=n, k=k)
            self.assertEqual(told, pair, (n, k))
            self.assertIs(told.__class__, tuple)

    def test_as_rings_tells_them(self):
        for n, k in SMALL + LARGE:
            sizes = [len(ring) for ring in rings(roll_order(n, k))]
            many, long = roll_rings(n, k)
            self.assertEqual(sizes, [long] * many, (n, k))
            if sizes:
                self.assertEqual((many, long), (math.gcd(n, k), n // math.gcd(n, k)))
            else:
                self.assertEqual((many, long), (0, 0))


class TurnPlan(unittest.TestCase):

    def test_written_out(self):
        for begin, end, plan in [
            (0, 0, []), (7, 7, []), (0, 1, []), (7, 8, []), (0, 2, [("swap", 0, 1)]), (3, 5, [("swap", 3, 4)]),
            (0, 3, [("swap", 0, 2)]), (2, 6, [("swap", 2, 5), ("swap", 3, 4)]), (2, 7, [("swap", 2, 6), ("swap", 3, 5)]),
            (0, LONGEST, [("swap", place, LONGEST - 1 - place) for place in range(200)]),
            (10 ** 18 - 3, 10 ** 18, [("swap", 10 ** 18 - 3, 10 ** 18 - 1)]),
        ]:
            told = turn_plan(begin=begin, end=end)
            self.assertEqual(told, plan)
            self.assertIsInstance(told, list)

    def test_walked_the_stretch_is_turned_about(self):
        for begin in range(6):
            for end in range(begin, 10):
                row = list(range(10))
                row[begin:end] = row[begin:end][::-1]
                self.assertIs(shows_plan(back_of(row), turn_plan(begin, end)), True, (begin, end))


class RollByTurns(unittest.TestCase):

    def test_written_out(self):
        for n, k, plan in [
            (0, 0, []), (0, 4, []), (1, 0, []), (1, 1, []), (4, 0, []), (4, 4, []), (4, -8, []), (2, 1, [("swap", 0, 1)]),
            (5, 2, [("swap", 0, 4), ("swap", 1, 3), ("swap", 0, 1), ("swap", 2, 4)]),
            (5, -3, [("swap", 0, 4), ("swap", 1, 3), ("swap", 0, 1), ("swap", 2, 4)]),
            (5, 3, [("swap", 0, 4), ("swap", 1, 3), ("swap", 0, 2), ("swap", 3, 4)]),
            (4, 1, [("swap", 0, 3), ("swap", 1, 2), ("swap", 1, 3)]),
            (4, -1, [("swap", 0, 3), ("swap", 1, 2), ("swap", 0, 2)]),
        ]:
            told = roll_by_turns(n=n, k=k)
            self.assertEqual(told, plan, (n, k))
            self.assertIsInstance(told, list)

    def test_walked_it_rolls(self):
        for n, k in SMALL + LARGE:
            order = roll_order(n, k)
            plan = roll_by_turns(n, k)
            self.assertIs(shows_plan(order, plan), True, (n, k))
            self.assertEqual(plan == [], off(order) == 0)

    def test_as_many_swaps_as_three_turns(self):
        for n, k in SMALL + LARGE:
            rest = k % n if n else 0
            swaps = n // 2 + rest // 2 + (n - rest) // 2 if rest else 0
            self.assertEqual(deeds_of(roll_by_turns(n, k)), (swaps, 0, 0, 0), (n, k))


class RollBySwaps(unittest.TestCase):

    def test_nothing_moves(self):
        for n, k in [(0, 0), (0, 1), (0, -1), (1, 0), (1, 3), (5, 0), (5, 5), (5, -10), (LONGEST, 10 ** 18)]:
            told = roll_by_swaps(n=n, k=k)
            self.assertEqual(told, [])
            self.assertIsInstance(told, list)

    def test_walked_it_rolls(self):
        for n, k in SMALL + LARGE:
            self.assertIs(shows_plan(roll_order(n, k), roll_by_swaps(n, k)), True, (n, k))

    def test_as_few_swaps_as_can_be(self):
        for n, k in SMALL + LARGE:
            order = roll_order(n, k)
            many = n - math.gcd(n, k) if off(order) else 0
            self.assertEqual(deeds_of(roll_by_swaps(n, k)), (many, 0, 0, 0), (n, k))
            self.assertEqual(many, fewest_swaps(order))


class Exchange(unittest.TestCase):

    def test_plans_written_out(self):
        for begin, middle, end, plan in [
            (0, 0, 0, []), (3, 3, 3, []), (3, 3, 7, []), (3, 7, 7, []), (0, 1, 1, []), (0, 0, 1, []),
            (0, 1, 2, [("take", 0), ("move", 1, 0), ("lay", 1)]),
            (4, 5, 6, [("take", 4), ("move", 5, 4), ("lay", 5)]),
            (0, 1, 3, [("take", 0), ("move", 1, 0), ("move", 2, 1), ("lay", 2)]),
            (5, 7, 8, [("take", 5), ("move", 7, 5), ("move", 6, 7), ("lay", 6)]),
            (1, 3, 5, [("take", 1), ("move", 3, 1), ("lay", 3), ("take", 2), ("move", 4, 2), ("lay", 4)]),
            (2, 4, 7, [("take", 2), ("move", 4, 2), ("move", 6, 4), ("move", 3, 6), ("move", 5, 3), ("lay", 5)]),
            (10 ** 18 - 2, 10 ** 18 - 1, 10 ** 18,
             [("take", 10 ** 18 - 2), ("move", 10 ** 18 - 1, 10 ** 18 - 2), ("lay", 10 ** 18 - 1)]),
        ]:
            told = exchange_plan(begin=begin, middle=middle, end=end)
            self.assertEqual(told, plan, (begin, middle, end))
            self.assertIsInstance(told, list)

    def test_orders_written_out(self):
        for n, begin, middle, end, order in [
            (0, 0, 0, 0, []), (2, 2, 2, 2, [0, 1]), (3, 0, 0, 3, [0, 1, 2]), (3, 0, 3, 3, [0, 1, 2]),
            (3, 0, 1, 3, [2, 0, 1]), (5, 1, 2, 4, [0, 3, 1, 2, 4]), (8, 2, 4, 7, [0, 1, 5, 6, 2, 3, 4, 7]),
        ]:
            told = exchange_order(n=n, begin=begin, middle=middle, end=end)
            self.assertEqual(told, order, (n, begin, middle, end))
            self.assertIsInstance(told, list)

    def test_the_first_part_stands_behind_the_other(self):
        cases = [(n, stretch) for stretch in STRETCHES for n in (stretch[2], 10)]
        for n, (begin, middle, end) in cases + [(LONGEST, stretch) for stretch in LONG_STRETCHES]:
            row = list(range(n))
            row[begin:end] = row[middle:end] + row[begin:middle]
            order = exchange_order(n, begin, middle, end)
            self.assertEqual(put(list(range(n)), order), row, (n, begin, middle, end))

    def test_walked_the_plan_has_the_order(self):
        for begin, middle, end in STRETCHES + LONG_STRETCHES:
            for n in (end, end + 3):
                order = exchange_order(n, begin, middle, end)
                plan = exchange_plan(begin, middle, end)
                self.assertIs(shows_plan(order, plan), True, (n, begin, middle, end))

    def test_as_by_rings_does(self):
        for begin, middle, end in STRETCHES + LONG_STRETCHES:
            order = exchange_order(end, begin, middle, end)
            self.assertEqual(exchange_plan(begin, middle, end), by_rings(order), (begin, middle, end))

    def test_as_many_deeds_as_a_roll_takes(self):
        for begin, middle, end in STRETCHES + LONG_STRETCHES:
            plan = exchange_plan(begin, middle, end)
            order = roll_order(end - begin, end - middle)
            swaps, takes, moves, lays = deeds_of(plan)
            self.assertEqual((swaps, takes, lays), (0, len(rings(order)), len(rings(order))))
            self.assertEqual(len(plan), fewest_moves(order))
            self.assertEqual(plan == [], middle in (begin, end))

    def test_each_thing_once_but_one_of_each_ring(self):
        for begin, middle, end in LONG_STRETCHES:
            moved = walked(LONGEST, exchange_plan(begin, middle, end))[2]
            for place, many in enumerate(moved):
                first = begin <= place < begin + math.gcd(end - begin, middle - begin)
                within = begin <= place < end and begin < middle < end
                self.assertEqual(many, within + (within and first))


class Told(unittest.TestCase):

    def test_is_the_askers_own(self):
        for ask, asked in [
            (roll_order, (5, 2)), (turn_plan, (1, 5)), (roll_by_turns, (5, 2)), (roll_by_swaps, (5, 2)),
            (exchange_plan, (1, 3, 5)), (exchange_order, (6, 1, 3, 5)),
        ]:
            one, other = ask(*asked), ask(*asked)
            before = list(other)
            self.assertTrue(all_apart(one, other))
            one.reverse()
            one.append(None)
            self.assertEqual(other, before)
            self.assertEqual(ask(*asked), before)

    def test_empty_answers_are_apart(self):
        for ask, asked in [
            (roll_order, (0, 2)), (turn_plan, (5, 5)), (roll_by_turns, (5, 0)), (roll_by_swaps, (5, 5)),
            (exchange_plan, (3, 3, 5)), (exchange_order, (0, 0, 0, 0)),
        ]:
            ask(*asked).append(("swap", 0, 1))
            self.assertEqual(ask(*asked), [])


if __name__ == "__main__":
    unittest.main()
