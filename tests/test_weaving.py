"""Promise [13], and [2] as far as it speaks of weaving.py."""

import unittest

from ownturn.orders import after, back_of, is_order, put, staying, times
from ownturn.plans import by_rings
from ownturn.rings import leaders, turns_of
from ownturn.rolls import exchange_plan
from ownturn.walking import deeds_of, shows_plan, walked
from ownturn.weaving import unweave_order, weave_moves, weave_order, weave_parts, weave_plan, weave_turns

from samples import all_apart

MOST = 100
ALL = [(many, first) for many in range(MOST + 1) for first in (0, 1)]
PARTS = [1, 4, 13, 40, 121]


def woven(row, first):
    """The row woven, thing by thing."""
    half = len(row) // 2
    told = []
    for one, other in zip(row[:half], row[half:]):
        told += [other, one] if first else [one, other]
    return told


def shifted_on(plan, by):
    """The plan with each place greater by so much."""
    return [(deed[0],) + tuple(place + by for place in deed[1:]) for deed in plan]


def plan_part_by_part(many):
    """The plan, with the rings of each part sought by by_rings."""
    plan, p, left = [], 0, many
    while left:
        m = max(part for part in PARTS if part <= left)
        plan += exchange_plan(p + m, p + left, p + left + m)
        plan += shifted_on(by_rings(weave_order(m, 1)), p)
        p, left = p + 2 * m, left - m
    return plan


def divisors_that_are_prime(number):
    """Each prime that divides the number."""
    found, prime = [], 2
    while number > 1:
        if number % prime == 0:
            found.append(prime)
            while number % prime == 0:
                number //= prime
        prime += 1
    return found


class WeaveOrder(unittest.TestCase):

    def test_written_out(self):
        for many, first, order in [
            (0, 0, []), (0, 1, []), (1, 0, [0, 1]), (1, 1, [1, 0]), (2, 0, [0, 2, 1, 3]), (2, 1, [1, 3, 0, 2]),
            (3, 0, [0, 2, 4, 1, 3, 5]), (3, 1, [1, 3, 5, 0, 2, 4]),
        ]:
            told = weave_order(many=many, first=first)
            self.assertEqual(told, order, (many, first))
            self.assertIsInstance(told, list)

    def test_things_are_woven(self):
        for many, first in ALL:
            row = list(range(2 * many))
            order = weave_order(many, first)
            self.assertTrue(is_order(order))
            self.assertEqual(put(row, order), woven(row, first), (many, first))

    def test_written_out_with_things(self):
        self.assertEqual(put(list("abcdef"), weave_order(3, 0)), list("adbecf"))
        self.assertEqual(put(list("abcdef"), weave_order(3, 1)), list("daebfc"))


class UnweaveOrder(unittest.TestCase):

    def test_written_out(self):
        for many, first, order in [
            (0, 0, []), (0, 1, []), (1, 0, [0, 1]), (1, 1, [1, 0]), (2, 0, [0, 2, 1, 3]), (2, 1, [2, 0, 3, 1]),
            (3, 0, [0, 3, 1, 4, 2, 5]), (3, 1, [3, 0, 4, 1, 5, 2]),
        ]:
            told = unweave_order(many=many, first=first)
            self.assertEqual(told, order, (many, first))
            self.assertIsInstance(told, list)

    def test_puts_back(self):
        for many, first in ALL:
            order, back = weave_order(many, first), unweave_order(many, first)
            self.assertEqual(back, back_of(order))
            self.assertEqual(after(order, back), staying(2 * many))
            row = list(range(2 * many))
            self.assertEqual(put(woven(row, first), back), row)


class WeaveTurns(unittest.TestCase):

    def test_written_out(self):
        for many, first, turns in [
            (0, 0, 1), (0, 1, 1), (1, 0, 1), (1, 1, 2), (2, 0, 2), (2, 1, 4), (3, 0, 4), (3, 1, 3), (4, 0, 3), (4, 1, 6),
            (26, 0, 8), (26, 1, 52), (32, 0, 6), (31, 1, 6), (64, 0, 7), (63, 1, 7),
        ]:
            told = weave_turns(many=many, first=first)
            self.assertEqual(told, turns, (many, first))
            self.assertIs(told.__class__, int)

    def test_as_turns_of_tells(self):
        for many, first in ALL:
            self.assertEqual(weave_turns(many, first), turns_of(weave_order(many, first)), (many, first))

    def test_so_often_all_is_as_it_stood(self):
        for many, first in ALL:
            order = weave_order(many, first)
            self.assertEqual(times(order, weave_turns(many, first)), staying(2 * many))

    def test_of_many_things(self):
        for many in (1000, 65535, 65536, 99991, 99999, 10 ** 5):
            for first in (0, 1):
                turns = weave_turns(many, first)
                by = 2 * many + 1 if first else 2 * many - 1
                self.assertEqual(pow(2, turns, by), 1, (many, first))
                for prime in divisors_that_are_prime(turns):
                    self.assertNotEqual(pow(2, turns // prime, by), 1, (many, first))

    def test_of_very_many_things_as_turns_of_tells(self):
        for first in (0, 1):
            self.assertEqual(weave_turns(10 ** 5, first), turns_of(weave_order(10 ** 5, first)))


class WeaveParts(unittest.TestCase):

    def test_written_out(self):
        for many, parts in [
            (0, []), (1, [1]), (2, [1, 1]), (3, [1, 1, 1]), (4, [4]), (5, [4, 1]), (8, [4, 4]), (12, [4, 4, 4]),
            (13, [13]), (14, [13, 1]), (17, [13, 4]), (26, [13, 13]), (39, [13, 13, 13]), (40, [40]), (53, [40, 13]),
            (100, [40, 40, 13, 4, 1, 1, 1]), (120, [40, 40, 40]), (121, [121]), (122, [121, 1]),
            (10 ** 5, [88573, 9841, 1093, 364, 121, 4, 4]),
        ]:
            told = weave_parts(many=many)
            self.assertEqual(told, parts, many)
            self.assertIsInstance(told, list)

    def test_each_is_the_greatest_that_is_left(self):
        for many in range(365):
            left = many
            for part in weave_parts(many):
                self.assertEqual(part, max(part for part in PARTS + [364] if part <= left), many)
                left -= part
            self.assertEqual(left, 0)


class WeavePlan(unittest.TestCase):

    def test_written_out(self):
        for many, plan in [
            (0, []),
            (1, [("take", 0), ("move", 1, 0), ("lay", 1)]),
            (2, [("take", 1), ("move", 2, 1), ("lay", 2), ("take", 0), ("move", 1, 0), ("lay", 1),
                 ("take", 2), ("move", 3, 2), ("lay", 3)]),
            (3, [("take", 1), ("move", 3, 1), ("move", 2, 3), ("lay", 2), ("take", 0), ("move", 1, 0), ("lay", 1),
                 ("take", 3), ("move", 4, 3), ("lay", 4), ("take", 2), ("move", 3, 2), ("lay", 3),
                 ("take", 4), ("move", 5, 4), ("lay", 5)]),
            (4, [("take", 0), ("move", 4, 0), ("move", 6, 4), ("move", 7, 6), ("move", 3, 7), ("move", 1, 3), ("lay", 1),
                 ("take", 2), ("move", 5, 2), ("lay", 5)]),
            (5, [("take", 4), ("move", 5, 4), ("move", 6, 5), ("move", 7, 6), ("move", 8, 7), ("lay", 8),
                 ("take", 0), ("move", 4, 0), ("move", 6, 4), ("move", 7, 6), ("move", 3, 7), ("move", 1, 3), ("lay", 1),
                 ("take", 2), ("move", 5, 2), ("lay", 5), ("take", 8), ("move", 9, 8), ("lay", 9)]),
        ]:
            told = weave_plan(many=many)
            self.assertEqual(told, plan, many)
            self.assertIsInstance(told, list)

    def test_walked_it_weaves(self):
        for many in list(range(MOST + 1)) + [120, 121, 122, 200]:
            self.assertIs(shows_plan(weave_order(many, 1), weave_plan(many)), True, many)

    def test_part_by_part_in_the_very_order_told(self):
        for many in list(range(MOST + 1)) + [121, 135]:
            self.assertEqual(weave_plan(many), plan_part_by_part(many), many)

    def test_rings_are_led_by_powers_of_three(self):
        for power, part in enumerate(PARTS, start=1):
            self.assertEqual(leaders(weave_order(part, 1)), [3 ** j - 1 for j in range(power)])
            laid = [deed[1] for deed in weave_plan(part) if deed[0] == "take"]
            self.assertEqual(laid, [3 ** j - 1 for j in range(power)])

    def test_without_swaps(self):
        for many in range(MOST + 1):
            swaps, takes, moves, lays = deeds_of(weave_plan(many))
            self.assertEqual((swaps, takes), (0, lays))


class WeaveMoves(unittest.TestCase):

    def test_written_out(self):
        for many, moves in [(0, 0), (1, 3), (2, 9), (3, 16), (4, 10), (5, 19), (13, 29), (40, 84)]:
            told = weave_moves(many=many)
            self.assertEqual(told, moves, many)
            self.assertIs(told.__class__, int)

    def test_as_many_as_the_plan_has(self):
        for many in range(MOST + 1):
            self.assertEqual(weave_moves(many), len(weave_plan(many)))
            self.assertEqual(weave_moves(many), sum(walked(2 * many, weave_plan(many))[2]), many)


class Told(unittest.TestCase):

    def test_is_the_askers_own(self):
        for ask, asked in [
            (weave_order, (3, 1)), (unweave_order, (3, 1)), (weave_parts, (100,)), (weave_plan, (5,)),
            (weave_order, (0, 0)), (unweave_order, (0, 1)), (weave_parts, (0,)), (weave_plan, (0,)),
        ]:
            one, other = ask(*asked), ask(*asked)
            before = list(other)
            self.assertTrue(all_apart(one, other))
            one.reverse()
            one.append(None)
            self.assertEqual(other, before)
            self.assertEqual(ask(*asked), before)

    def test_places_are_numbers(self):
        for many, first in ALL:
            for ask in (weave_order, unweave_order):
                self.assertTrue(all(place.__class__ is int for place in ask(many, first)))

    def test_what_is_told_may_be_handed_in_again(self):
        plan = weave_plan(MOST)
        self.assertEqual(walked(2 * MOST, tuple(plan))[1], weave_order(MOST, 1))


if __name__ == "__main__":
    unittest.main()
