"""Promise [7], and [2] as far as it speaks of plans.py."""

import itertools
import unittest

from ownturn.orders import off
from ownturn.plans import by_rings, by_swaps, fewest_moves, fewest_swaps, moved_by
from ownturn.rings import rings
from ownturn.room import Room
from ownturn.walking import deeds_of, shows_plan, walked

from samples import LONGEST, all_apart, deeds_for, large_orders, long_ring, many_rings, small_orders

ORDERS = small_orders(6) + large_orders()


def fewest(n, words):
    """For each order of n places the fewest deeds of these words that are done and have it, by trying all."""
    deeds = [deed for deed in deeds_for(n) if deed[0] in words]
    start = Room(n)
    seen = {(start.row_now(), None): 0}
    ahead = [start]
    while ahead:
        later = []
        for room in ahead:
            many = seen[room.row_now(), room.hand_now()]
            for deed in deeds:
                twin = room.twin()
                try:
                    twin.do(deed)
                except ValueError:
                    continue
                stand = twin.row_now(), twin.hand_now()
                if stand not in seen:
                    seen[stand] = many + 1
                    later.append(twin)
        ahead = later
    return {
        tuple(row.index(thing) for thing in range(n)): many for (row, hand), many in seen.items() if hand is None
    }


class ByRings(unittest.TestCase):

    def test_written_out(self):
        for order, plan in [
            ([], []), ([0], []), ([0, 1, 2], []),
            ([1, 0], [("take", 0), ("move", 1, 0), ("lay", 1)]),
            ([1, 2, 0], [("take", 0), ("move", 2, 0), ("move", 1, 2), ("lay", 1)]),
            ([2, 0, 1], [("take", 0), ("move", 1, 0), ("move", 2, 1), ("lay", 2)]),
            ([2, 1, 3, 0], [("take", 0), ("move", 3, 0), ("move", 2, 3), ("lay", 2)]),
            ([3, 0, 1, 2], [("take", 0), ("move", 1, 0), ("move", 2, 1), ("move", 3, 2), ("lay", 3)]),
            ([3, 4, 2, 0, 1], [("take", 0), ("move", 3, 0), ("lay", 3), ("take", 1), ("move", 4, 1), ("lay", 4)]),
            ([0, 3, 4, 2, 1], [("take", 1), ("move", 4, 1), ("move", 2, 4), ("move", 3, 2), ("lay", 3)]),
        ]:
            self.assertEqual(by_rings(order=order), plan)
            self.assertEqual(by_rings(tuple(order)), plan)

    def test_one_long_ring(self):
        last = LONGEST - 1
        plan = [("take", 0), ("move", last, 0)] + [("move", place, place + 1) for place in range(last - 1, 0, -1)]
        self.assertEqual(by_rings(long_ring(LONGEST)), plan + [("lay", 1)])

    def test_ring_by_ring_as_rings_tells_them(self):
        for order in ORDERS:
            plan = by_rings(order)
            self.assertIsInstance(plan, list)
            left = list(plan)
            for ring in rings(order):
                part, left = left[:len(ring) + 1], left[len(ring) + 1:]
                self.assertEqual(part[0], ("take", ring[0]))
                self.assertEqual(part[-1], ("lay", ring[1]))
                moves = [("move", place, order[place]) for place in reversed(ring[1:])]
                self.assertEqual(part[1:-1], moves)
            self.assertEqual(left, [])

    def test_walked_it_has_the_order(self):
        for order in ORDERS:
            told = walked(len(order), by_rings(order))
            self.assertEqual(told, ("done", order, tuple(moved_by(order))))
            self.assertIs(shows_plan(order, by_rings(order)), True)

    def test_as_many_deeds_as_told(self):
        for order in ORDERS:
            many = len(rings(order))
            self.assertEqual(deeds_of(by_rings(order)), (0, many, off(order) - many, many))
            self.assertEqual(len(by_rings(order)), fewest_moves(order))


class BySwaps(unittest.TestCase):

    def test_written_out(self):
        for order, plan in [
            ([], []), ([0], []), ([0, 1, 2], []),
            ([1, 0], [("swap", 0, 1)]),
            ([1, 2, 0], [("swap", 0, 1), ("swap", 0, 2)]),
            ([2, 0, 1], [("swap", 0, 2), ("swap", 0, 1)]),
            ([3, 4, 2, 0, 1], [("swap", 0, 3), ("swap", 1, 4)]),
            ([0, 3, 4, 2, 1], [("swap", 1, 3), ("swap", 1, 2), ("swap", 1, 4)]),
        ]:
            self.assertEqual(by_swaps(order=order), plan)
            self.assertEqual(by_swaps(tuple(order)), plan)

    def test_one_long_ring(self):
        self.assertEqual(by_swaps(long_ring(LONGEST)), [("swap", 0, place) for place in range(1, LONGEST)])

    def test_walked_it_has_the_order(self):
        for order in ORDERS:
            plan = by_swaps(order)
            self.assertIsInstance(plan, list)
            self.assertEqual(walked(len(order), plan)[:2], ("done", order))
            self.assertIs(shows_plan(order, plan), True)

    def test_as_many_deeds_as_told(self):
        for order in ORDERS:
            self.assertEqual(deeds_of(by_swaps(order)), (fewest_swaps(order), 0, 0, 0))


class Fewest(unittest.TestCase):

    def test_no_plan_without_swaps_has_fewer(self):
        for n in range(6):
            found = fewest(n, ("take", "move", "lay"))
            for order in itertools.permutations(range(n)):
                self.assertEqual(fewest_moves(order), found[order], order)

    def test_no_plan_of_swaps_has_fewer(self):
        for n in range(7):
            found = fewest(n, ("swap",))
            for order in itertools.permutations(range(n)):
                self.assertEqual(fewest_swaps(order), found[order], order)

    def test_written_out(self):
        for sizes, moves, swaps in [
            ([], 0, 0), ([1], 0, 0), ([1] * LONGEST, 0, 0), ([2], 3, 1), ([3], 4, 2), ([2, 2], 6, 2), ([1, 3, 1, 2], 7, 3),
            ([LONGEST], LONGEST + 1, LONGEST - 1), ([2] * 200, 600, 200), ([1, 2] * 133, 399, 133),
        ]:
            order = many_rings(sizes)
            self.assertEqual(fewest_moves(order=order), moves)
            self.assertEqual(fewest_swaps(order=order), swaps)
            self.assertEqual(fewest_moves(tuple(order)), moves)
            self.assertEqual(fewest_swaps(tuple(order)), swaps)

    def test_off_and_rings_together(self):
        for order in ORDERS:
            self.assertEqual(fewest_moves(order), off(order) + len(rings(order)))
            self.assertEqual(fewest_swaps(order), off(order) - len(rings(order)))


class MovedBy(unittest.TestCase):

    def test_written_out(self):
        for order, counts in [
            ([], []), ([0], [0]), ([0, 1], [0, 0]), ([1, 0], [2, 1]), ([0, 2, 1], [0, 2, 1]), ([2, 0, 1], [2, 1, 1]),
            ([3, 4, 2, 0, 1], [2, 2, 0, 1, 1]), (long_ring(LONGEST), [2] + [1] * (LONGEST - 1)),
        ]:
            told = moved_by(order=order)
            self.assertEqual(told, counts)
            self.assertIsInstance(told, list)
            self.assertEqual(moved_by(tuple(order)), counts)

    def test_as_walked(self):
        for order in ORDERS:
            told = moved_by(order)
            self.assertEqual(told, list(walked(len(order), by_rings(order))[2]))
            self.assertEqual(sum(told), fewest_moves(order))


class Told(unittest.TestCase):

    def test_is_the_askers_own(self):
        order = [1, 2, 0, 4, 3]
        for ask in (by_rings, by_swaps, moved_by):
            one, other = ask(order), ask(order)
            before = list(other)
            self.assertTrue(all_apart(order, one, other))
            one.reverse()
            one.append(None)
            self.assertEqual(other, before)
            self.assertEqual(ask(order), before)

    def test_handed_in_stays_and_is_not_kept(self):
        for ask in (by_rings, by_swaps, moved_by, fewest_moves, fewest_swaps):
            order = [1, 2, 0, 4, 3]
            told = ask(order)
            self.assertEqual(order, [1, 2, 0, 4, 3])
            order.clear()
            self.assertEqual(told, ask([1, 2, 0, 4, 3]))

    def test_deeds_are_tuples_of_numbers(self):
        for order in ORDERS:
            for deed in by_rings(order) + by_swaps(order):
                self.assertIs(deed.__class__, tuple)
                self.assertEqual({part.__class__ for part in deed[1:]}, {int})


if __name__ == "__main__":
    unittest.main()
