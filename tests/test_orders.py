"""Promise [3], and [2] as far as it speaks of orders.py."""

import itertools
import unittest

from ownturn.errors import NoMatch
from ownturn.orders import after, back_of, is_order, off, put, staying, times

from samples import LONGEST, NO_PLACES, all_apart, large_orders, long_ring, many_rings, small_orders, spread


def done_by_steps(order, many):
    """The order done so many times, each thing led along its ring step by step."""
    reached = []
    for first in range(len(order)):
        ring = [first]
        while order[ring[-1]] != first:
            ring.append(order[ring[-1]])
        reached.append(ring[many % len(ring)])
    return reached


class IsOrder(unittest.TestCase):

    def test_orders_are(self):
        for order in small_orders(5) + large_orders():
            self.assertIs(is_order(order), True)
            self.assertIs(is_order(tuple(order)), True)

    def test_no_places_are_one(self):
        self.assertIs(is_order([]), True)
        self.assertIs(is_order(()), True)

    def test_other_lists_of_numbers_are_not(self):
        for n in range(1, 5):
            for thing in itertools.product(range(-2, n + 2), repeat=n):
                right = sorted(thing) == list(range(n))
                self.assertIs(is_order(list(thing)), right, thing)
                self.assertIs(is_order(thing), right, thing)

    def test_things_of_other_kinds_are_not(self):
        for thing in [None, True, False, 0, 1, -1, 10 ** 18, "", "0", "01", "[0]"]:
            self.assertIs(is_order(thing), False, thing)

    def test_what_is_no_place_spoils_a_list(self):
        for spoiler in NO_PLACES:
            for thing in ([spoiler], [0, spoiler], [spoiler, 0], [1, 0, spoiler], [spoiler, spoiler]):
                self.assertIs(is_order(thing), False, thing)
                self.assertIs(is_order(tuple(thing)), False, thing)

    def test_truths_are_no_numbers(self):
        for thing in ([False], [False, True], [True, False], [0, True], [False, 1], [2, True, 0]):
            self.assertIs(is_order(thing), False, thing)
            self.assertIs(is_order(tuple(thing)), False, thing)

    def test_nine_deep(self):
        thing = 0
        for at in range(9):
            thing = [thing] if at % 2 else (thing,)
            self.assertIs(is_order(thing), at == 0, thing)

    def test_one_wrong_place_among_many(self):
        for at in (0, 1, 200, 398, 399):
            for wrong in (-1, LONGEST, True, None, "7", [7], (at + 1) % LONGEST):
                thing = long_ring(LONGEST)[::-1]
                thing[at] = wrong if wrong != thing[at] else -5
                self.assertIs(is_order(thing), False)


class Staying(unittest.TestCase):

    def test_each_thing_stays(self):
        for n in (0, 1, 2, 3, 10, LONGEST):
            told = staying(n)
            self.assertIsInstance(told, list)
            self.assertEqual(told, [place for place in range(n)])

    def test_told_anew(self):
        one = staying(3)
        one.append(9)
        self.assertEqual(staying(n=3), [0, 1, 2])


class Put(unittest.TestCase):

    def test_each_thing_stands_at_its_goal(self):
        for order in small_orders(5) + large_orders():
            things = [f"thing {place}" for place in range(len(order))]
            told = put(things, order)
            self.assertIsInstance(told, list)
            self.assertEqual(len(told), len(order))
            for place, goal in enumerate(order):
                self.assertEqual(told[goal], things[place])

    def test_written_out(self):
        self.assertEqual(put(["a", "b", "c"], [1, 2, 0]), ["c", "a", "b"])
        self.assertEqual(put([], []), [])
        self.assertEqual(put(["a"], [0]), ["a"])
        self.assertEqual(put([7, 7, 8], [2, 0, 1]), [7, 8, 7])

    def test_things_of_any_kind_stay_as_they_are(self):
        things = [1, True, 0, False, None, "", (), (1, [2]), [], [[3], "x"]]
        told = put(things, list(range(10))[::-1])
        self.assertEqual(repr(told), repr(things[::-1]))

    def test_tuples_and_lists_alike(self):
        for things in (["a", "b", "c"], ("a", "b", "c")):
            for order in ([2, 0, 1], (2, 0, 1)):
                told = put(things, order)
                self.assertEqual(told, ["b", "c", "a"])
                self.assertIsInstance(told, list)

    def test_unlike_lengths_are_refused(self):
        for things, order in [
            ([], [0]), (["a"], []), (["a"], [1, 0]), (["a", "b"], [0]), (("a", "b", "c"), (1, 0)),
            (["a"] * 399, list(range(400))), (["a"] * 400, list(range(399))),
        ]:
            with self.assertRaises(NoMatch):
                put(things, order)

    def test_lists_among_things_are_told_apart(self):
        inner = [1]
        things = [inner, inner, ([2], "b"), [[3], (4, [5])]]
        told = put(things, [3, 2, 1, 0])
        self.assertEqual(told, [[[3], (4, [5])], ([2], "b"), [1], [1]])
        self.assertTrue(all_apart(told[:2], told[2], told[3]))
        told[2].append(9)
        told[0][0].append(9)
        told[1][0].append(9)
        self.assertEqual(things, [[1], [1], ([2], "b"), [[3], (4, [5])]])
        self.assertEqual(told[3], [1])

    def test_by_names(self):
        self.assertEqual(put(order=[1, 0], things=["a", "b"]), ["b", "a"])


class After(unittest.TestCase):

    def test_one_and_then_other(self):
        for n in range(5):
            orders = [list(order) for order in itertools.permutations(range(n))]
            things = [f"thing {place}" for place in range(n)]
            for one in orders:
                for other in orders:
                    told = after(one, other)
                    self.assertIsInstance(told, list)
                    self.assertTrue(is_order(told))
                    self.assertEqual(put(things, told), put(put(things, one), other))

    def test_written_out(self):
        self.assertEqual(after([1, 2, 0], [1, 0, 2]), [0, 2, 1])
        self.assertEqual(after([1, 0, 2], [1, 2, 0]), [2, 1, 0])
        self.assertEqual(after([], []), [])
        self.assertEqual(after([0], [0]), [0])

    def test_long_ones(self):
        one, other = spread(LONGEST, 7, 3), long_ring(LONGEST)
        told = after(tuple(one), other)
        self.assertEqual(told, [(7 * place + 4) % LONGEST for place in range(LONGEST)])
        self.assertEqual(after(one, tuple(other)), told)

    def test_unlike_lengths_are_refused(self):
        for one, other in [
            ([], [0]), ([0], []), ([0], [1, 0]), ([1, 0], [0]), ((0, 1), (2, 1, 0)), ([0, 1], (0, 1, 2)),
            (list(range(399)), list(range(400))), (list(range(400)), list(range(399))),
        ]:
            with self.assertRaises(NoMatch):
                after(one, other)

    def test_by_names(self):
        self.assertEqual(after(other=[1, 0, 2], one=[1, 2, 0]), [0, 2, 1])


class BackOf(unittest.TestCase):

    def test_puts_back(self):
        for order in small_orders(5) + large_orders():
            told = back_of(order)
            self.assertIsInstance(told, list)
            self.assertEqual([told[goal] for goal in order], list(range(len(order))))
            self.assertEqual(back_of(tuple(order)), told)
            self.assertEqual(back_of(order=told), order)

    def test_written_out(self):
        self.assertEqual(back_of([1, 2, 0]), [2, 0, 1])
        self.assertEqual(back_of([]), [])
        self.assertEqual(back_of([0]), [0])


class Times(unittest.TestCase):

    def test_few_times_of_every_small_order(self):
        for order in small_orders(5):
            for many in range(-13, 14):
                self.assertEqual(times(order, many), done_by_steps(order, many), (order, many))

    def test_nought_leaves_all(self):
        for order in small_orders(4) + large_orders():
            self.assertEqual(times(order, 0), list(range(len(order))))

    def test_once_and_once_back(self):
        for order in small_orders(4) + large_orders():
            self.assertEqual(times(order, 1), order)
            self.assertEqual(times(order, -1), back_of(order))
            self.assertEqual(times(order, 2), after(order, order))

    def test_beside_a_rings_length(self):
        for n in (1, 2, 3, 7, 399, LONGEST):
            order = long_ring(n)
            for many in (n - 2, n - 1, n, n + 1, 2 * n - 1, 2 * n, 2 * n + 1):
                self.assertEqual(times(order, many), [(place + many) % n for place in range(n)])
                self.assertEqual(times(order, -many), [(place - many) % n for place in range(n)])

    def test_far_both_ways(self):
        for order in small_orders(4) + large_orders():
            for far in (10 ** 18, 10 ** 18 - 1, 2 ** 59, 2 ** 59 - 1, 123456789012345678):
                self.assertEqual(times(order, far), done_by_steps(order, far))
                self.assertEqual(times(order, -far), done_by_steps(order, -far))

    def test_many_beyond_the_bounds_that_was_told(self):
        order = many_rings([2, 3, 5, 7, 11, 13, 17, 19, 23, 29, 31, 37, 41, 43, 47, 49])
        many = 7
        for prime in [2, 3, 5, 7, 11, 13, 17, 19, 23, 29, 31, 37, 41, 43, 47]:
            many *= prime
        self.assertEqual(times(order, many), list(range(len(order))))
        self.assertEqual(times(order, many + 1), order)

    def test_told_is_a_list_of_its_own(self):
        for order in ([], [0], [1, 2, 0], (1, 2, 0)):
            for many in range(-3, 4):
                told = times(order, many)
                self.assertIsInstance(told, list)
                told.append("more")
                self.assertEqual(times(order=order, many=many), done_by_steps(order, many))
        self.assertEqual(order, (1, 2, 0))

    def test_once_is_not_what_was_handed_in(self):
        order = [1, 2, 0]
        self.assertTrue(all_apart(order, times(order, 1), times(order, 1), times(order, 4)))


class Off(unittest.TestCase):

    def test_written_out(self):
        for order, many in [
            ([], 0), ([0], 0), ([0, 1, 2], 0), ([1, 0], 2), ([1, 0, 2], 2), ([2, 1, 0], 2), ([1, 2, 0], 3),
            ([1, 0, 3, 2], 4), (list(range(LONGEST)), 0), (long_ring(LONGEST), LONGEST), (long_ring(399), 399),
            (many_rings([1, 2] * 133), 266), (many_rings([1, 1, 3, 1]), 3),
        ]:
            self.assertEqual(off(order), many)
            self.assertEqual(off(tuple(order)), many)

    def test_told_is_a_number(self):
        self.assertIs(off([0]).__class__, int)
        self.assertEqual(off(order=[1, 0]), 2)

    def test_every_small_order(self):
        for order in small_orders(5):
            stay = 0
            for place in range(len(order)):
                stay += order[place] == place
            self.assertEqual(off(order), len(order) - stay)


class HandedIn(unittest.TestCase):

    def test_stays_as_it_was(self):
        order, other, things = [2, 0, 1, 3], [3, 2, 1, 0], ["a", "b", "c", "d"]
        is_order(order)
        put(things, order)
        after(order, other)
        back_of(order)
        for many in (-5, -1, 0, 1, 5):
            times(order, many)
        off(order)
        self.assertEqual((order, other, things), ([2, 0, 1, 3], [3, 2, 1, 0], ["a", "b", "c", "d"]))

    def test_stays_as_it_was_when_refused(self):
        order, things = [2, 0, 1], ["a", [1]]
        with self.assertRaises(NoMatch):
            put(things, order)
        with self.assertRaises(NoMatch):
            after(order, [1, 0])
        self.assertEqual((order, things), ([2, 0, 1], ["a", [1]]))

    def test_is_not_told_nor_kept(self):
        order, things = [0, 1, 2], ["a", "b", "c"]
        told = [put(things, order), after(order, order), back_of(order), times(order, 1), times(order, 0), staying(3)]
        before = [list(one) for one in told]
        self.assertTrue(all_apart(order, things, *told))
        order[0] = 9
        things[0] = "z"
        self.assertEqual(told, before)
        told[1].append(4)
        self.assertEqual(order, [9, 1, 2])

    def test_the_same_is_told_again(self):
        order = spread(101, 2, 50)
        for ask in (back_of, off, is_order, lambda one: times(one, 77), lambda one: after(one, one)):
            self.assertEqual(ask(order), ask(order))


if __name__ == "__main__":
    unittest.main()
