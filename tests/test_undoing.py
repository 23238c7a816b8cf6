"""Promise [16], and [2] as far as it speaks of undoing.py."""

import copy
import itertools
import unittest

from ownturn.errors import BadPlan, NotDone, TurnError
from ownturn.gathering import gather_plan
from ownturn.orders import after, back_of, staying
from ownturn.plans import by_rings, by_swaps
from ownturn.rolls import exchange_plan, roll_by_turns
from ownturn.room import Room
from ownturn.tables import square_plan, turn_table
from ownturn.undoing import joined, order_done, shifted, tidied, undone
from ownturn.walking import walked
from ownturn.weaving import weave_plan

from samples import LONGEST, NO_DEEDS, NO_PLANS, all_apart, deeds_for, large_orders, small_orders

RING_OF_THREE = [("take", 0), ("move", 2, 0), ("move", 1, 2), ("lay", 1)]


def plans_that_go(n, most):
    """Every plan of at most so many deeds that can be done in a Room of n places, open ones too."""
    found, reached = [[]], [([], Room(n))]
    for many in range(most):
        further = []
        for plan, room in reached:
            for deed in deeds_for(n):
                twin = room.twin()
                try:
                    twin.do(deed)
                except TurnError:
                    continue
                further.append((plan + [deed], twin))
        found += [plan for plan, room in further]
        reached = further
    return found


GOING = [(n, plan) for n, most in ((0, 1), (1, 6), (2, 4), (3, 3)) for plan in plans_that_go(n, most)]
LARGE = [(len(order), by_rings(order)) for order in large_orders()]
LARGE += [(len(order), by_swaps(order)) for order in large_orders()]
LARGE += [(200, weave_plan(100)), (400, turn_table(16, 25)), (400, square_plan(20)), (397, roll_by_turns(397, 100))]
LARGE += [(200, gather_plan([place * 3 % 8 for place in range(200)])), (2, [("swap", 0, 1), ("swap", 1, 0)] * 2000)]


def standing(n, plan):
    """How a Room stands behind a plan."""
    room = Room(n)
    for deed in plan:
        room.do(deed)
    return room.row_now(), room.hand_now()


def undoing_pair(one, other):
    """Whether the other deed undoes the one ahead of it, told case by case."""
    words = one[0], other[0]
    if words == ("swap", "swap"):
        return one[1:] in (other[1:], other[:0:-1])
    if words in (("take", "lay"), ("lay", "take")):
        return one[1] == other[1]
    return words == ("move", "move") and one[1:] == other[:0:-1]


def tidied_by_pairs(plan):
    """The plan without the first pair that undoes itself, again and again."""
    for at in range(len(plan) - 1):
        if undoing_pair(plan[at], plan[at + 1]):
            return tidied_by_pairs(plan[:at] + plan[at + 2:])
    return plan


class Undone(unittest.TestCase):

    def test_written_out(self):
        for plan, back in [
            ([], []), ([("swap", 0, 1)], [("swap", 0, 1)]), ([("swap", 5, 2)], [("swap", 5, 2)]),
            ([("take", 3)], [("lay", 3)]), ([("lay", 3)], [("take", 3)]), ([("move", 1, 2)], [("move", 2, 1)]),
            (RING_OF_THREE, [("take", 1), ("move", 2, 1), ("move", 0, 2), ("lay", 0)]),
            ([("swap", 0, 1), ("swap", 2, 1), ("take", 0)], [("lay", 0), ("swap", 2, 1), ("swap", 0, 1)]),
        ]:
            for asked in (plan, tuple(plan)):
                told = undone(plan=asked)
                self.assertEqual(told, back, plan)
                self.assertIsInstance(told, list)
                self.assertTrue(all(deed.__class__ is tuple for deed in told))

    def test_walked_behind_the_plan_all_stands_as_it_stood(self):
        for n, plan in GOING + LARGE:
            self.assertEqual(standing(n, plan + undone(plan)), (tuple(range(n)), None), plan)

    def test_undone_twice_is_the_plan(self):
        for n, plan in GOING + LARGE:
            self.assertEqual(undone(undone(plan)), plan)

    def test_has_the_order_that_puts_back(self):
        for n, plan in LARGE:
            self.assertEqual(order_done(n, undone(plan)), back_of(order_done(n, plan)))


class Joined(unittest.TestCase):

    def test_written_out(self):
        for plans, plan in [
            ([], []), ([[]], []), ([[], []], []), ([[("take", 0)]], [("take", 0)]),
            ([[("take", 0)], [], [("lay", 0), ("swap", 0, 1)]], [("take", 0), ("lay", 0), ("swap", 0, 1)]),
            ([[("swap", 0, 1)], [("swap", 0, 1)]], [("swap", 0, 1), ("swap", 0, 1)]),
        ]:
            for asked in (plans, tuple(plans), [tuple(part) for part in plans], tuple(tuple(part) for part in plans)):
                told = joined(plans=asked)
                self.assertEqual(told, plan, plans)
                self.assertIsInstance(told, list)

    def test_one_after_the_other(self):
        orders = [order for order in small_orders(4) if len(order) == 4]
        for one, other in itertools.product(orders, repeat=2):
            self.assertEqual(order_done(4, joined([by_rings(one), by_swaps(other)])), after(one, other))

    def test_many_plans(self):
        plans = [[("swap", place, place + 1)] for place in range(399)] * 10
        self.assertEqual(joined(plans), [plan[0] for plan in plans])

    def test_the_plan_alone_is_another_list(self):
        plan = list(RING_OF_THREE)
        told = joined([plan])
        self.assertEqual(told, plan)
        self.assertIsNot(told, plan)


class Tidied(unittest.TestCase):

    def test_pairs_that_undo_themselves(self):
        for plan in [
            [], [("swap", 0, 1), ("swap", 0, 1)], [("swap", 0, 1), ("swap", 1, 0)], [("take", 2), ("lay", 2)],
            [("lay", 2), ("take", 2)], [("move", 0, 1), ("move", 1, 0)],
            [("take", 0), ("move", 1, 0), ("swap", 2, 3), ("swap", 3, 2), ("move", 0, 1), ("lay", 0)],
        ]:
            for asked in (plan, tuple(plan)):
                told = tidied(plan=asked)
                self.assertEqual(told, [], plan)
                self.assertIsInstance(told, list)

    def test_pairs_that_do_not(self):
        for plan in [
            [("swap", 0, 1)], [("swap", 0, 1), ("swap", 0, 2)], [("swap", 0, 1), ("swap", 1, 2)], [("take", 0), ("lay", 1)],
            [("lay", 0), ("take", 1)], [("take", 0), ("take", 0)], [("lay", 0), ("lay", 0)], [("move", 0, 1), ("move", 0, 1)],
            [("move", 0, 1), ("move", 1, 2)], [("move", 0, 1), ("move", 2, 0)], [("swap", 0, 1), ("move", 0, 1)],
            [("swap", 0, 1), ("move", 1, 0)], [("move", 0, 1), ("swap", 0, 1)], [("move", 0, 1), ("swap", 1, 0)],
            [("take", 0), ("move", 1, 0), ("lay", 0)], [("take", 0), ("move", 0, 1)], RING_OF_THREE,
        ]:
            told = tidied(plan)
            self.assertEqual(told, plan)
            self.assertIsNot(told, plan)

    def test_gone_through_from_the_first_on(self):
        for plan, left in [
            ([("swap", 0, 1), ("swap", 1, 0), ("swap", 0, 1)], [("swap", 0, 1)]),
            ([("swap", 0, 1), ("swap", 0, 1), ("swap", 1, 0)], [("swap", 1, 0)]),
            ([("swap", 1, 0), ("swap", 0, 1), ("swap", 0, 1), ("swap", 2, 3)], [("swap", 0, 1), ("swap", 2, 3)]),
            ([("take", 0), ("lay", 0), ("take", 0)], [("take", 0)]),
            ([("swap", 4, 5), ("take", 0), ("lay", 0), ("swap", 5, 4), ("take", 1)], [("take", 1)]),
            ([("swap", 4, 5), ("take", 0), ("lay", 0), ("swap", 5, 6), ("take", 1)],
             [("swap", 4, 5), ("swap", 5, 6), ("take", 1)]),
        ]:
            self.assertEqual(tidied(plan), left)

    def test_every_short_list_of_deeds(self):
        deeds = deeds_for(2) + [("swap", 0, 2), ("move", 1, 2)]
        for many in range(5):
            for plan in itertools.product(deeds, repeat=many):
                self.assertEqual(tidied(list(plan)), tidied_by_pairs(list(plan)), plan)

    def test_walked_all_stands_the_same(self):
        for n, plan in GOING + LARGE:
            self.assertEqual(standing(n, tidied(plan)), standing(n, plan), plan)

    def test_a_plan_and_what_undoes_it_leave_nothing(self):
        for n, plan in GOING + LARGE:
            self.assertEqual(tidied(plan + undone(plan)), [])
            self.assertEqual(tidied(undone(plan) + plan), [])

    def test_tidied_twice_is_tidied(self):
        for n, plan in GOING + LARGE:
            self.assertEqual(tidied(tidied(plan)), tidied(plan))

    def test_the_longest_plans(self):
        self.assertEqual(tidied([("swap", 0, 1)] * 4000), [])
        self.assertEqual(tidied([("swap", 0, 1)] * 3999), [("swap", 0, 1)])
        there = [("move", place, place + 1) for place in range(2000)]
        self.assertEqual(tidied(there + undone(there)), [])


class Shifted(unittest.TestCase):

    def test_written_out(self):
        for plan, by, told in [
            ([], 3, []), (RING_OF_THREE, 0, RING_OF_THREE), (RING_OF_THREE, -(10 ** 18), [
                ("take", -(10 ** 18)), ("move", 2 - 10 ** 18, -(10 ** 18)), ("move", 1 - 10 ** 18, 2 - 10 ** 18),
                ("lay", 1 - 10 ** 18)]),
            (RING_OF_THREE, 5, [("take", 5), ("move", 7, 5), ("move", 6, 7), ("lay", 6)]),
            ([("swap", 3, 9)], -3, [("swap", 0, 6)]), ([("swap", 3, 9)], -4, [("swap", -1, 5)]),
            ([("lay", 4)], 10 ** 18 - 4, [("lay", 10 ** 18)]),
        ]:
            for asked in (plan, tuple(plan)):
                got = shifted(plan=asked, by=by)
                self.assertEqual(got, told, (plan, by))
                self.assertIsInstance(got, list)
                self.assertTrue(all(deed.__class__ is tuple for deed in got))

    def test_walked_further_on_in_the_row(self):
        for n, plan in GOING + LARGE:
            row, hand = standing(n + 5, shifted(plan, 3))
            first_row, first_hand = standing(n, plan)
            moved_on = tuple(None if thing is None else thing + 3 for thing in first_row)
            self.assertEqual(row, (0, 1, 2) + moved_on + (n + 3, n + 4))
            self.assertEqual(hand, None if first_hand is None else first_hand + 3)

    def test_there_and_back(self):
        for n, plan in GOING + LARGE:
            for by in (0, 1, -1, 400, 10 ** 18):
                self.assertEqual(shifted(shifted(plan, by), -by), plan)

    def test_as_exchange_plan_does(self):
        for begin in range(4):
            self.assertEqual(shifted(exchange_plan(0, 2, 5), begin), exchange_plan(begin, begin + 2, begin + 5))


class OrderDone(unittest.TestCase):

    def test_written_out(self):
        for n, plan, order in [
            (0, [], []), (1, [], [0]), (3, RING_OF_THREE, [1, 2, 0]), (4, tuple(RING_OF_THREE), [1, 2, 0, 3]),
            (2, [("take", 0), ("lay", 0)], [0, 1]), (3, [("swap", 0, 2), ("swap", 1, 2)], [1, 2, 0]),
        ]:
            told = order_done(n=n, plan=plan)
            self.assertEqual(told, order)
            self.assertIsInstance(told, list)

    def test_as_walked_tells(self):
        for n, plan in GOING + LARGE:
            told = walked(n, plan)
            if told[0] == "done":
                self.assertEqual(order_done(n, plan), told[1])
            else:
                with self.assertRaises(NotDone) as caught:
                    order_done(n, plan)
                self.assertEqual(caught.exception.hand, told[2])
                self.assertIs(caught.exception.hand.__class__, int)

    def test_plans_of_all_orders(self):
        for order in small_orders(5) + large_orders():
            self.assertEqual(order_done(len(order), by_rings(order)), order)
            self.assertEqual(order_done(len(order), by_swaps(order)), order)

    def test_each_thing_left_in_the_hand(self):
        for thing in (0, 1, 5, LONGEST - 1):
            with self.assertRaises(NotDone) as caught:
                order_done(LONGEST, [("take", thing)])
            self.assertEqual(caught.exception.hand, thing)
        with self.assertRaises(NotDone) as caught:
            order_done(3, [("swap", 0, 2), ("take", 0)])
        self.assertEqual(caught.exception.hand, 2)

    def test_things_that_are_no_plan(self):
        for thing in NO_PLANS:
            self.refused(3, thing, 0, "form")
            self.refused(0, thing, 0, "form")
        for thing in NO_DEEDS:
            self.refused(3, [thing], 0, "form")
            self.refused(3, RING_OF_THREE + [thing], 4, "form")

    def test_deeds_that_cannot_be_done(self):
        self.refused(3, [("swap", 1, 1)], 0, "same")
        self.refused(3, [("take", 1), ("swap", 1, 2)], 1, "empty")
        self.refused(3, [("swap", 0, 1), ("move", 0, 1)], 1, "full")
        self.refused(3, [("swap", 0, 3)], 0, "form")

    def test_refused_as_walked_ahead_of_not_done(self):
        self.refused(3, [("take", 0), None], 1, "form")
        self.refused(3, [("take", 0), ("take", 1)], 1, "full")

    def test_refusals_stand_under_turn_error(self):
        for plan, kind in ((None, BadPlan), ([("take", 0)], NotDone)):
            with self.assertRaises(TurnError) as caught:
                order_done(1, plan)
            self.assertIs(caught.exception.__class__, kind)
        self.assertFalse(issubclass(NotDone, BadPlan) or issubclass(BadPlan, NotDone))

    def refused(self, n, plan, place, word):
        before = copy.deepcopy(plan)
        with self.assertRaises(BadPlan, msg=(n, plan)) as caught:
            order_done(n, plan)
        self.assertEqual((caught.exception.place, caught.exception.word), (place, word), (n, plan))
        self.assertEqual(plan, before)


class HandedInAndTold(unittest.TestCase):

    def test_what_is_handed_in_stays(self):
        for n, plan in LARGE + [(3, RING_OF_THREE), (1, [("take", 0)])]:
            asked = list(plan)
            undone(asked)
            tidied(asked)
            shifted(asked, -7)
            both = [asked, asked]
            joined(both)
            self.assertEqual(both, [plan, plan])
            self.assertEqual(len(both), 2)
            try:
                order_done(n, asked)
            except NotDone:
                pass
            self.assertEqual(asked, plan)

    def test_is_the_askers_own(self):
        for ask in (undone, tidied, lambda plan: shifted(plan, 0), lambda plan: joined([plan]), lambda plan: order_done(3, plan)):
            for plan in ([], list(RING_OF_THREE)):
                one, other = ask(plan), ask(plan)
                before = list(other)
                self.assertTrue(all_apart(plan, one, other))
                one.reverse()
                one.append(None)
                self.assertEqual(other, before)
                self.assertEqual(ask(plan), before)
        joined([]).append(None)
        self.assertEqual(joined([]), [])

    def test_orders_of_nothing_done(self):
        order_done(2, []).reverse()
        self.assertEqual(order_done(2, []), staying(2))


if __name__ == "__main__":
    unittest.main()
