"""Promise [4], and [2] as far as it speaks of rings.py."""

import itertools
import unittest

from ownturn.errors import BadRing, TurnError
from ownturn.orders import is_order, times
from ownturn.rings import leaders, order_by, rings, turns_of

from samples import LONGEST, NO_PLACES, all_apart, large_orders, long_ring, many_rings, small_orders


class Rings(unittest.TestCase):

    def test_as_told_of_every_order(self):
        for order in small_orders(6) + large_orders():
            told = rings(order)
            self.assertIsInstance(told, list)
            for ring in told:
                self.assertIsInstance(ring, list)
                self.assertGreaterEqual(len(ring), 2)
                self.assertEqual(ring[0], min(ring))
                self.assertEqual([order[place] for place in ring], ring[1:] + ring[:1])
            places = [place for ring in told for place in ring]
            self.assertEqual(sorted(places), [place for place, goal in enumerate(order) if place != goal])
            firsts = [ring[0] for ring in told]
            self.assertEqual(firsts, sorted(firsts))
            self.assertEqual(rings(tuple(order)), told)

    def test_written_out(self):
        for order, told in [
            ([], []), ([0], []), ([0, 1, 2], []), ([1, 0], [[0, 1]]), ([1, 2, 0], [[0, 1, 2]]),
            ([2, 0, 1], [[0, 2, 1]]), ([3, 4, 2, 0, 1], [[0, 3], [1, 4]]), ([0, 3, 4, 1, 2], [[1, 3], [2, 4]]),
        ]:
            self.assertEqual(rings(order=order), told)

    def test_one_long_ring(self):
        self.assertEqual(rings(long_ring(LONGEST)), [list(range(LONGEST))])

    def test_told_lists_are_apart(self):
        order = [1, 0, 3, 2]
        one, other = rings(order), rings(order)
        self.assertTrue(all_apart(order, one, other))
        one[0].append(9)
        one.append([])
        self.assertEqual(other, [[0, 1], [2, 3]])
        self.assertEqual(rings(order), [[0, 1], [2, 3]])


class Leaders(unittest.TestCase):

    def test_written_out(self):
        for order, told in [
            ([], []), ([0], []), ([0, 1], []), ([1, 0], [0]), ([3, 4, 2, 0, 1], [0, 1]), ([0, 3, 4, 1, 2], [1, 2]),
            (long_ring(LONGEST), [0]), (many_rings([1, 2, 1, 3, 2]), [1, 4, 7]),
        ]:
            self.assertEqual(leaders(order=order), told)
            self.assertEqual(leaders(tuple(order)), told)

    def test_least_of_each_ring(self):
        for order in small_orders(5) + large_orders():
            told = leaders(order)
            self.assertIsInstance(told, list)
            self.assertEqual(told, sorted(min(ring) for ring in rings(order)))

    def test_told_is_apart(self):
        order = [1, 0, 3, 2]
        told = leaders(order)
        told.append(9)
        self.assertEqual(leaders(order), [0, 2])


class OrderBy(unittest.TestCase):

    def test_back_from_rings(self):
        for order in small_orders(6) + large_orders():
            told = order_by(len(order), rings(order))
            self.assertIsInstance(told, list)
            self.assertEqual(told, order)

    def test_begun_anywhere_and_in_any_order(self):
        for order in small_orders(5) + [many_rings([2, 3, 1, 4, 2])]:
            parts = rings(order)
            for mixed in itertools.permutations(parts):
                for on in range(4):
                    begun = [ring[on % len(ring):] + ring[:on % len(ring)] for ring in mixed]
                    self.assertEqual(order_by(len(order), begun), order)
                    self.assertEqual(order_by(len(order), tuple(tuple(ring) for ring in begun)), order)

    def test_long_rings_begun_anywhere(self):
        for order in large_orders():
            begun = [ring[len(ring) // 2:] + ring[:len(ring) // 2] for ring in rings(order)][::-1]
            self.assertEqual(order_by(len(order), begun), order)

    def test_written_out(self):
        self.assertEqual(order_by(0, []), [])
        self.assertEqual(order_by(1, ()), [0])
        self.assertEqual(order_by(3, []), [0, 1, 2])
        self.assertEqual(order_by(3, [[2, 0]]), [2, 1, 0])
        self.assertEqual(order_by(4, [(3, 0, 1)]), [1, 3, 2, 0])
        self.assertEqual(order_by(rings_told=[[0, 1]], n=2), [1, 0])

    def refused(self, n, rings_told):
        before = repr(rings_told)
        with self.assertRaises(BadRing, msg=(n, rings_told)):
            order_by(n, rings_told)
        self.assertEqual(repr(rings_told), before)

    def test_fewer_than_two_places(self):
        for ring in ([], [0], (), (0,), [1]):
            self.refused(3, [ring])
            self.refused(3, (ring,))
            self.refused(3, [[1, 2], ring])
            self.refused(3, [ring, [1, 2]])
        self.refused(0, [[]])
        self.refused(1, [[0]])

    def test_no_places_of_the_row(self):
        for wrong in NO_PLACES:
            for ring in ([wrong, 1], [1, wrong], [0, 1, wrong], [wrong, wrong], [2, wrong, 1]):
                self.refused(LONGEST, [ring])
                self.refused(LONGEST, [tuple(ring)])
                self.refused(LONGEST, [[3, 4], ring])

    def test_just_beyond_the_row(self):
        for n in range(5):
            for ring in ([0, n], [n, 0], [0, -1], [-1, 0], [n, n + 1]):
                self.refused(n, [ring])
        self.refused(0, [[0, 1]])
        self.refused(1, [[0, 1]])

    def test_truths_are_no_places(self):
        for ring in ([True, 0], [0, True], [False, 1], [1, False], [False, True], [2, True]):
            self.refused(3, [ring])

    def test_twice(self):
        for rings_told in (
            [[0, 0]], [[0, 1, 0]], [[1, 0, 0]], [[0, 1, 2, 1]], [[0, 1], [1, 2]], [[0, 1], [2, 0]],
            [[0, 1], [0, 1]], [(0, 1), [1, 0]], [[0, 1], [2, 3], [3, 4]], [[4, 3], [1, 2], [0, 4]],
        ):
            self.refused(5, rings_told)

    def test_every_short_ring(self):
        for size in range(4):
            for ring in itertools.product(range(-1, 4), repeat=size):
                right = size >= 2 and len(set(ring)) == size and min(ring) >= 0 and max(ring) < 3
                if right:
                    order = order_by(3, [ring])
                    self.assertTrue(is_order(order))
                    self.assertEqual([order[place] for place in ring], list(ring[1:] + ring[:1]))
                else:
                    self.refused(3, [ring])

    def test_refused_as_a_turn_error(self):
        with self.assertRaises(TurnError) as caught:
            order_by(2, [[0]])
        self.assertIs(caught.exception.__class__, BadRing)

    def test_handed_in_is_not_kept(self):
        parts = [[0, 1], [2, 3]]
        told = order_by(4, parts)
        self.assertTrue(all_apart(parts, told, order_by(4, parts)))
        parts[0][0] = 3
        self.assertEqual(told, [1, 0, 3, 2])
        told.append(9)
        self.assertEqual(parts, [[3, 1], [2, 3]])


class TurnsOf(unittest.TestCase):

    def test_least_of_every_small_order(self):
        for order in small_orders(6):
            many, row = 1, list(order)
            while row != list(range(len(order))):
                row = [order[place] for place in row]
                many += 1
            self.assertEqual(turns_of(order), many)
            self.assertEqual(turns_of(tuple(order)), many)

    def test_written_out(self):
        for sizes, many in [
            ([], 1), ([1], 1), ([1] * LONGEST, 1), ([2], 2), ([2, 2], 2), ([2, 3], 6), ([4, 6], 12), ([6, 10, 15], 30),
            ([8, 4, 2], 8), ([LONGEST], LONGEST), ([399], 399), ([200, 199], 39800), ([12, 18, 1, 1], 36),
        ]:
            self.assertEqual(turns_of(order=many_rings(sizes)), many)
            self.assertEqual(turns_of(many_rings(sizes[::-1])), many)

    def test_far_beyond_the_bounds(self):
        primes = [2, 3, 5, 7, 11, 13, 17, 19, 23, 29, 31, 37, 41, 43, 47]
        order = many_rings(primes)
        product = 1
        for prime in primes:
            product *= prime
        self.assertEqual(turns_of(order), product)
        self.assertEqual(times(order, turns_of(order)), list(range(len(order))))
        for prime in primes:
            self.assertNotEqual(times(order, product // prime), list(range(len(order))))

    def test_large_ones_leave_all(self):
        for order in large_orders():
            self.assertEqual(times(order, turns_of(order)), list(range(len(order))))


class HandedIn(unittest.TestCase):

    def test_stays_as_it_was(self):
        order, parts = [2, 0, 1, 4, 3], [[2, 0, 1], [4, 3]]
        rings(order)
        leaders(order)
        turns_of(order)
        order_by(5, parts)
        self.assertEqual((order, parts), ([2, 0, 1, 4, 3], [[2, 0, 1], [4, 3]]))

    def test_is_not_kept(self):
        order = [1, 2, 0]
        told = rings(order)
        order[0] = 0
        self.assertEqual(told, [[0, 1, 2]])


if __name__ == "__main__":
    unittest.main()
