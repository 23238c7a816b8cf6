"""Promises [8] and [9], and [2] as far as it speaks of finding.py."""

import unittest

from ownturn.finding import (
    leaders_found, leads, shows_leaders, steps_both, steps_from, walks, walks_both, walks_marked,
)
from ownturn.orders import back_of
from ownturn.rings import leaders, rings

from samples import LONGEST, all_apart, large_orders, long_ring, many_rings, small_orders

ORDERS = small_orders(6) + large_orders()
DOWN = [(place - 1) % LONGEST for place in range(LONGEST)]


def round_from(order, place):
    """The places of a place's ring behind it, one behind the other, itself last."""
    come = [order[place]]
    while come[-1] != place:
        come.append(order[come[-1]])
    return come


def first_no_greater(come, place):
    """How many there are up to the first that is no greater, and that one."""
    at = [goal <= place for goal in come].index(True)
    return at + 1, come[at]


def both_ways(order, place):
    """Where one comes to both ways by turns, a round each."""
    ahead, behind = round_from(order, place), round_from(back_of(order), place)
    return [goal for two in zip(ahead, behind) for goal in two]


def marked_walks(order, marks):
    """What walks_marked is to tell: of a ring those of its places that have a mark walk only ahead of its leader."""
    counts = []
    for place in range(len(order)):
        found = min(round_from(order, place)) < place
        counts.append(0 if found and place < marks else first_no_greater(round_from(order, place), place)[0])
    return counts


class Walks(unittest.TestCase):

    def test_written_out(self):
        for order, counts in [
            ([], []), ([0], [1]), ([0, 1, 2], [1, 1, 1]), ([1, 0], [2, 1]), ([1, 2, 0], [3, 2, 1]), ([2, 0, 1], [3, 1, 1]),
            ([3, 4, 2, 0, 1], [2, 2, 1, 1, 1]), ([0, 3, 4, 2, 1], [1, 4, 2, 1, 1]),
            (long_ring(LONGEST), list(range(LONGEST, 0, -1))), (DOWN, [LONGEST] + [1] * (LONGEST - 1)),
        ]:
            told = walks(order=order)
            self.assertEqual(told, counts)
            self.assertIsInstance(told, list)
            self.assertEqual(walks(tuple(order)), counts)
            self.assertEqual([steps_from(order=order, place=place) for place in range(len(order))], counts)

    def test_to_the_first_place_no_greater(self):
        for order in ORDERS:
            for place, told in enumerate(walks(order)):
                steps, end = first_no_greater(round_from(order, place), place)
                self.assertEqual(told, steps)
                self.assertEqual(steps_from(tuple(order), place), steps)
                self.assertIs(leads(order, place), end == place)

    def test_all_that_stay(self):
        self.assertEqual(walks(list(range(LONGEST))), [1] * LONGEST)


class Leads(unittest.TestCase):

    def test_the_least_of_its_ring(self):
        for order in ORDERS:
            for place in range(len(order)):
                self.assertIs(leads(order, place), place == min(round_from(order, place)))
                self.assertIs(leads(tuple(order), place), leads(order=order, place=place))

    def test_whose_thing_stays(self):
        self.assertIs(leads([0], 0), True)
        self.assertIs(leads([1, 0, 2], 2), True)
        self.assertIs(leads([1, 0, 2], 1), False)


class LeadersFound(unittest.TestCase):

    def test_written_out(self):
        for order, told in [
            ([], ([], 0)), ([0], ([], 1)), ([0, 1, 2], ([], 3)), ([1, 0], ([0], 3)), ([1, 2, 0], ([0], 6)),
            ([2, 0, 1], ([0], 5)), ([0, 3, 4, 1, 2], ([1, 2], 7)), (list(range(LONGEST)), ([], LONGEST)),
            (long_ring(LONGEST), ([0], LONGEST * (LONGEST + 1) // 2)), (DOWN, ([0], 2 * LONGEST - 1)),
        ]:
            self.assertEqual(leaders_found(order=order), told)
            self.assertEqual(leaders_found(tuple(order)), told)

    def test_a_pair_of_a_list_and_a_number(self):
        for order in ORDERS:
            told = leaders_found(order)
            self.assertIs(told.__class__, tuple)
            self.assertIs(told[0].__class__, list)
            self.assertEqual(told, (leaders(order), sum(walks(order))))


class BothWays(unittest.TestCase):

    def test_written_out(self):
        for order, counts in [
            ([], []), ([0], [1]), ([0, 1, 2], [1, 1, 1]), ([1, 0], [3, 1]), ([1, 2, 0], [5, 2, 1]), ([2, 0, 1], [5, 1, 1]),
            ([1, 2, 3, 0], [7, 2, 2, 1]), ([3, 4, 2, 0, 1], [3, 3, 1, 1, 1]), ([0, 3, 4, 2, 1], [1, 7, 3, 1, 1]),
            # From 1 to 4 ahead, 3 behind, 5 ahead, 2 behind, 0 ahead.
            ([2, 4, 3, 1, 5, 0], [11, 5, 2, 1, 2, 1]),
            (long_ring(LONGEST), [2 * LONGEST - 1] + [2] * (LONGEST - 2) + [1]),
            (DOWN, [2 * LONGEST - 1] + [1] * (LONGEST - 1)),
        ]:
            told = walks_both(order=order)
            self.assertEqual(told, counts, order)
            self.assertIsInstance(told, list)
            self.assertEqual(walks_both(tuple(order)), counts)
            self.assertEqual([steps_both(order=order, place=place) for place in range(len(order))], counts)

    def test_by_turns_to_the_first_place_no_greater(self):
        for order in ORDERS:
            told = walks_both(order)
            for place in range(len(order)):
                steps, end = first_no_greater(both_ways(order, place), place)
                self.assertEqual(told[place], steps)
                self.assertEqual(end == place, leads(order, place))
                if leads(order, place):
                    self.assertEqual(steps, 2 * len(round_from(order, place)) - 1)
        for order in small_orders(6):
            self.assertEqual([steps_both(tuple(order), place) for place in range(len(order))], walks_both(order))

    def test_one_place_by_itself_in_the_greatest_row(self):
        for order in large_orders():
            told = walks_both(order)
            for place in (0, 1, len(order) // 2, len(order) - 1):
                self.assertEqual(steps_both(order, place), told[place])


class WithMarks(unittest.TestCase):

    def test_written_out(self):
        for order, marks, counts in [
            ([], 0, []), ([0], 0, [1]), ([0], 1, [1]), ([0, 1, 2], 3, [1, 1, 1]),
            ([1, 2, 0], 0, [3, 2, 1]), ([1, 2, 0], 1, [3, 2, 1]), ([1, 2, 0], 2, [3, 0, 1]), ([1, 2, 0], 3, [3, 0, 0]),
            ([3, 4, 2, 0, 1], 4, [2, 2, 1, 0, 1]), ([3, 4, 2, 0, 1], 5, [2, 2, 1, 0, 0]),
            (long_ring(LONGEST), LONGEST, [LONGEST] + [0] * (LONGEST - 1)),
            (long_ring(LONGEST), 399, [LONGEST] + [0] * 398 + [1]),
            (long_ring(LONGEST), 1, list(range(LONGEST, 0, -1))),
        ]:
            told = walks_marked(order=order, marks=marks)
            self.assertEqual(told, counts, (order, marks))
            self.assertIsInstance(told, list)
            self.assertEqual(walks_marked(tuple(order), marks), counts)

    def test_every_small_order_with_every_number_of_marks(self):
        for order in small_orders(5):
            for marks in range(len(order) + 1):
                self.assertEqual(walks_marked(order, marks), marked_walks(order, marks), (order, marks))

    def test_large_orders(self):
        for order in large_orders():
            for marks in (0, 1, 17, len(order) // 2, len(order) - 1, len(order)):
                self.assertEqual(walks_marked(order, marks), marked_walks(order, marks))

    def test_without_marks_as_walks(self):
        for order in ORDERS:
            self.assertEqual(walks_marked(order, 0), walks(order))

    def test_with_all_marks_each_ring_is_walked_once(self):
        for order in ORDERS:
            told = walks_marked(order, len(order))
            self.assertEqual(sum(told), len(order))
            for ring in rings(order):
                self.assertEqual([told[place] for place in ring], [len(ring)] + [0] * (len(ring) - 1))


class ShowsLeaders(unittest.TestCase):

    def test_just_the_list_or_tuple(self):
        for order in ORDERS:
            told = leaders(order)
            for thing in (told, tuple(told)):
                self.assertIs(shows_leaders(order, thing), True)
                self.assertIs(shows_leaders(tuple(order), thing), True)
            for wrong in (told + [len(order)], told + [0], [0] + told, told[1:] + [None], told + told[:1], [told]):
                if wrong != told:
                    self.assertIs(shows_leaders(order, wrong), False)
                    self.assertIs(shows_leaders(order, tuple(wrong)), False)

    def test_no_more_no_fewer_and_in_this_order(self):
        order = many_rings([2, 1, 3, 2])
        self.assertEqual(leaders(order), [0, 3, 6])
        for thing in ([], [0], [0, 3], [3, 6], [0, 6, 3], [6, 3, 0], [0, 3, 6, 6], [0, 2, 3, 6], [0, 3, 7], [0, 3, 6, 8]):
            self.assertIs(shows_leaders(order, thing), False)
            self.assertIs(shows_leaders(order, tuple(thing)), False)

    def test_truths_are_no_places(self):
        self.assertIs(shows_leaders([1, 0], [0]), True)
        self.assertIs(shows_leaders([1, 0], [False]), False)
        self.assertIs(shows_leaders([0, 2, 1], [1]), True)
        self.assertIs(shows_leaders([0, 2, 1], [True]), False)
        self.assertIs(shows_leaders([0, 2, 1], (True,)), False)
        self.assertIs(shows_leaders([2, 3, 0, 1], [False, True]), False)
        self.assertIs(shows_leaders([2, 3, 0, 1], [0, True]), False)

    def test_anything(self):
        for order in ([], [0], [1, 0], [0, 2, 1]):
            for thing in [
                None, True, False, 0, 1, "", "0", "[]", [[]], [()], ((),), [[0]], [(0,)], ([0],), [None], ["0"], [-1],
                [10 ** 18], [[[[[[[[0]]]]]]]],
            ]:
                self.assertIs(shows_leaders(order, thing), False, (order, thing))

    def test_none_lead(self):
        for n in (0, 1, 2, LONGEST):
            self.assertIs(shows_leaders(list(range(n)), []), True)
            self.assertIs(shows_leaders(list(range(n)), ()), True)
            self.assertIs(shows_leaders(list(range(n)), [0]), False)

    def test_of_what_is_no_order(self):
        for wrong in (None, True, 0, "", [True, 0], [0, 0], [1], [[0]], [1, None]):
            self.assertIs(shows_leaders(wrong, []), False)
            self.assertIs(shows_leaders(wrong, [0]), False)

    def test_by_names(self):
        self.assertIs(shows_leaders(thing=[0], order=[1, 0]), True)

    def test_what_is_handed_in_stays(self):
        order, thing = [1, 0], [0, [1]]
        shows_leaders(order, thing)
        self.assertEqual((order, thing), ([1, 0], [0, [1]]))


class Told(unittest.TestCase):

    def test_is_the_askers_own(self):
        order = [1, 2, 0, 4, 3]
        for ask in (walks, leaders_found, walks_both, lambda order: walks_marked(order, 4)):
            one, other = ask(order), ask(order)
            before = repr(other)
            self.assertTrue(all_apart(order, one, other))
            told = one[0] if isinstance(one, tuple) else one
            told.append(9)
            told[0] = 7
            self.assertEqual(repr(other), before)
            self.assertEqual(repr(ask(order)), before)

    def test_handed_in_stays_and_is_not_kept(self):
        for ask in (
            walks, leaders_found, walks_both, lambda order: walks_marked(order, 4), lambda order: steps_from(order, 0),
            lambda order: steps_both(order, 0), lambda order: leads(order, 0),
        ):
            order = [1, 2, 0, 4, 3]
            told = ask(order)
            self.assertEqual(order, [1, 2, 0, 4, 3])
            order.clear()
            self.assertEqual(told, ask([1, 2, 0, 4, 3]))


if __name__ == "__main__":
    unittest.main()
