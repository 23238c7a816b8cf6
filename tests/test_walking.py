"""Promise [6], and [2] as far as it speaks of walking.py."""

import copy
import itertools
import unittest

from ownturn.errors import BadDeed, BadPlan, TurnError
from ownturn.orders import is_order, put, staying
from ownturn.room import Room
from ownturn.walking import deeds_of, shows_plan, walked

from samples import LONGEST, NO_DEEDS, NO_PLANS, all_apart, deeds_for, small_orders

RING_OF_THREE = [("take", 0), ("move", 2, 0), ("move", 1, 2), ("lay", 1)]


def plans_up_to(n, most):
    """Every list of at most so many deeds with the form of ones in a row of n places."""
    for many in range(most + 1):
        for plan in itertools.product(deeds_for(n), repeat=many):
            yield list(plan)


def asked(n, plan):
    """What a Room comes to, deed by deed: ("refused", place, word), or what walked is to tell."""
    room = Room(n)
    for at, deed in enumerate(plan):
        try:
            room.do(deed)
        except BadDeed as refusal:
            return "refused", at, refusal.word
    row, hand, moved = room.row_now(), room.hand_now(), room.moved_now()
    if hand is None:
        return "done", [row.index(thing) for thing in range(n)], moved
    return "open", row, hand, moved


class Asking(unittest.TestCase):

    def refused(self, n, plan, place, word):
        before = copy.deepcopy(plan)
        with self.assertRaises(BadPlan, msg=(n, plan)) as caught:
            walked(n, plan)
        self.assertEqual((caught.exception.place, caught.exception.word), (place, word), (n, plan))
        self.assertIs(caught.exception.place.__class__, int)
        self.assertEqual(plan, before)

    def told(self, n, plan, answer):
        before = copy.deepcopy(plan)
        told = walked(n, plan)
        self.assertEqual(told, answer, (n, plan))
        self.assertIsInstance(told, tuple)
        self.assertIsInstance(told[1], list if told[0] == "done" else tuple)
        self.assertIsInstance(told[-1], tuple)
        self.assertEqual(plan, before)


class Done(Asking):

    def test_no_deeds(self):
        for n in (0, 1, 2, LONGEST):
            for plan in ([], ()):
                self.told(n, plan, ("done", staying(n), (0,) * n))

    def test_the_order_tells_where_things_go(self):
        self.told(3, RING_OF_THREE, ("done", [1, 2, 0], (2, 1, 1)))
        self.told(3, tuple(RING_OF_THREE), ("done", [1, 2, 0], (2, 1, 1)))
        self.told(4, [("swap", 0, 1), ("swap", 0, 3)], ("done", [1, 3, 2, 0], (1, 2, 0, 1)))

    def test_the_order_brings_things_where_they_stand(self):
        plan = [("swap", 0, 2), ("take", 1), ("move", 3, 1), ("move", 0, 3), ("lay", 0)]
        room = Room(4)
        for deed in plan:
            room.do(deed)
        told = walked(4, plan)
        self.assertEqual(put(list(range(4)), told[1]), list(room.row_now()))
        self.assertNotEqual(told[1], list(room.row_now()))

    def test_taken_and_laid(self):
        self.told(1, [("take", 0), ("lay", 0)], ("done", [0], (2,)))
        self.told(2, [("take", 0), ("lay", 0)] * 3, ("done", [0, 1], (6, 0)))

    def test_swaps_while_the_hand_has_a_thing(self):
        self.told(3, [("take", 2), ("swap", 0, 1), ("lay", 2)], ("done", [1, 0, 2], (1, 1, 2)))

    def test_the_greatest_row(self):
        last = LONGEST - 1
        plan = [("take", 0)] + [("move", place, place - 1) for place in range(1, LONGEST)] + [("lay", last)]
        self.told(LONGEST, plan, ("done", [last] + list(range(last)), (2,) + (1,) * last))

    def test_the_longest_plans(self):
        for many in (4000, 4001):
            order = [0, 1] if many % 2 == 0 else [1, 0]
            self.told(2, [("swap", 0, 1)] * many, ("done", order, (many, many)))


class Open(Asking):

    def test_with_a_thing_in_the_hand(self):
        self.told(1, [("take", 0)], ("open", (None,), 0, (1,)))
        self.told(3, [("take", 1)], ("open", (0, None, 2), 1, (0, 1, 0)))
        self.told(3, RING_OF_THREE[:3], ("open", (2, None, 1), 0, (1, 1, 1)))
        self.told(3, RING_OF_THREE + [("take", 1)], ("open", (2, None, 1), 0, (3, 1, 1)))

    def test_thing_nought_in_the_hand_is_open(self):
        self.assertEqual(walked(2, (("take", 0),)), ("open", (None, 1), 0, (1, 0)))


class EveryPlan(Asking):

    def test_as_a_room_does(self):
        for n, most in ((0, 1), (1, 4), (2, 3), (3, 3)):
            for plan in plans_up_to(n, most):
                answer = asked(n, plan)
                if answer[0] == "refused":
                    self.refused(n, plan, answer[1], answer[2])
                else:
                    self.told(n, plan, answer)
                order = answer[1] if answer[0] == "done" else None
                for maybe in itertools.permutations(range(n)):
                    self.assertIs(shows_plan(list(maybe), plan), list(maybe) == order, (maybe, plan))


class Refused(Asking):

    def test_no_list_and_no_tuple(self):
        for thing in NO_PLANS:
            for n in (0, 1, 5, LONGEST):
                self.refused(n, thing, 0, "form")

    def test_no_deeds_in_it(self):
        for thing in NO_DEEDS:
            self.refused(3, [thing], 0, "form")
            self.refused(3, (thing,), 0, "form")
            self.refused(3, [("swap", 0, 1), thing], 1, "form")
            self.refused(3, RING_OF_THREE + [thing, thing], 4, "form")
            self.refused(3, [thing] + RING_OF_THREE, 0, "form")

    def test_a_deed_alone_is_no_plan(self):
        self.refused(3, ("take", 0), 0, "form")
        self.refused(3, ("swap", 0, 1), 0, "form")

    def test_deeds_are_tuples(self):
        self.refused(2, [["swap", 0, 1]], 0, "form")
        self.refused(2, [("take", 0), ["lay", 0]], 1, "form")

    def test_places_of_the_row(self):
        self.refused(0, [("take", 0)], 0, "form")
        self.refused(2, [("swap", 0, 1), ("swap", 1, 2)], 1, "form")
        self.refused(2, [("swap", 0, -1)], 0, "form")
        self.refused(2, [("swap", 0, True)], 0, "form")
        self.refused(2, [("take", False)], 0, "form")
        self.refused(LONGEST, [("take", LONGEST)], 0, "form")
        self.refused(LONGEST, [("take", 10 ** 18)], 0, "form")

    def test_each_word(self):
        taken = [("swap", 0, 1), ("take", 0)]
        for n, plan, place, word in [
            (3, [("swap", 1, 1)], 0, "same"),
            (3, taken + [("move", 1, 1)], 2, "same"),
            (3, taken + [("take", 1)], 2, "full"),
            (3, taken + [("lay", 1)], 2, "full"),
            (3, taken + [("move", 1, 2)], 2, "full"),
            (3, taken + [("swap", 0, 1)], 2, "empty"),
            (3, taken + [("swap", 1, 0)], 2, "empty"),
            (3, [("lay", 0)], 0, "full"),
            (1, [("take", 0), ("lay", 0), ("lay", 0)], 2, "full"),
        ]:
            self.refused(n, plan, place, word)

    def test_the_first_of_several(self):
        self.refused(3, [("swap", 0, 0), None], 0, "same")
        self.refused(3, [("swap", 0, 1), ("take", 0), ("take", 1), ("swap", 2, 2), ("put", 0)], 2, "full")
        self.refused(2, [("swap", 0, 1)] * 3999 + [None], 3999, "form")

    def test_open_and_then_refused(self):
        self.refused(2, [("take", 0), ("take", 1)], 1, "full")

    def test_refused_as_a_turn_error(self):
        with self.assertRaises(TurnError) as caught:
            walked(1, None)
        self.assertIs(caught.exception.__class__, BadPlan)


class DeedsOf(unittest.TestCase):

    def test_counted_in_this_order(self):
        for plan, counts in [
            ([], (0, 0, 0, 0)), ((), (0, 0, 0, 0)), (RING_OF_THREE, (0, 1, 2, 1)), (tuple(RING_OF_THREE), (0, 1, 2, 1)),
            ([("swap", 0, 1)], (1, 0, 0, 0)), ([("take", 0)], (0, 1, 0, 0)), ([("move", 0, 1)], (0, 0, 1, 0)),
            ([("lay", 0)], (0, 0, 0, 1)), ([("lay", 1), ("swap", 0, 1)] * 3 + [("take", 2)], (3, 1, 0, 3)),
        ]:
            told = deeds_of(plan=plan)
            self.assertEqual(told, counts)
            self.assertIsInstance(told, tuple)

    def test_whether_they_can_be_done_or_not(self):
        self.assertEqual(deeds_of([("lay", 5), ("lay", 5), ("move", 7, 7)]), (0, 0, 1, 2))

    def test_long_plans(self):
        plan = [("swap", 0, 1), ("take", 0), ("move", 1, 0), ("lay", 1)] * 1000
        self.assertEqual(deeds_of(plan), (1000, 1000, 1000, 1000))
        self.assertEqual(deeds_of(plan + plan), (2000, 2000, 2000, 2000))

    def test_what_is_handed_in_stays(self):
        plan = list(RING_OF_THREE)
        deeds_of(plan)
        self.assertEqual(plan, RING_OF_THREE)


class ShowsPlan(unittest.TestCase):

    def test_just_its_order(self):
        for order in small_orders(3):
            self.assertIs(shows_plan(order, RING_OF_THREE), order == [1, 2, 0])
            self.assertIs(shows_plan(tuple(order), tuple(RING_OF_THREE)), order == [1, 2, 0])

    def test_no_places_and_one(self):
        self.assertIs(shows_plan([], []), True)
        self.assertIs(shows_plan((), ()), True)
        self.assertIs(shows_plan([0], []), True)
        self.assertIs(shows_plan([0], [("take", 0), ("lay", 0)]), True)
        self.assertIs(shows_plan([0], [("take", 0)]), False)
        self.assertIs(shows_plan([], [("take", 0)]), False)

    def test_as_many_places(self):
        self.assertIs(shows_plan([1, 2, 0, 3], RING_OF_THREE), True)
        self.assertIs(shows_plan([1, 0], [("swap", 0, 1)]), True)
        self.assertIs(shows_plan([1, 0], [("swap", 0, 1), ("swap", 1, 2)]), False)
        self.assertIs(shows_plan([1, 0], RING_OF_THREE), False)

    def test_open_ones_are_none(self):
        for many in range(1, 4):
            for order in small_orders(3):
                self.assertIs(shows_plan(order, RING_OF_THREE[:many]), False)

    def test_refused_ones_are_none(self):
        staying_plan = [("swap", 0, 1), ("swap", 0, 1)]
        self.assertIs(shows_plan([0, 1, 2], staying_plan), True)
        for wrong in [("swap", 1, 1), ("lay", 0), ("move", 0, 1), ("take", 3)] + NO_DEEDS:
            for at in range(3):
                self.assertIs(shows_plan([0, 1, 2], staying_plan[:at] + [wrong] + staying_plan[at:]), False)

    def test_things_that_are_no_plan(self):
        for thing in NO_PLANS:
            self.assertIs(shows_plan([], thing), False)
            self.assertIs(shows_plan([1, 0], thing), False)

    def test_things_that_are_no_order(self):
        for thing in [None, True, 0, "", "0", [True, 0], [1, False], [0, 0], [1], [[0]], (0, None), [0, 2], [-1, 0]]:
            self.assertFalse(is_order(thing))
            self.assertIs(shows_plan(thing, []), False)
            self.assertIs(shows_plan(thing, [("swap", 0, 1)]), False)

    def test_the_greatest_row(self):
        order = list(range(LONGEST))[::-1]
        plan = [("swap", place, LONGEST - 1 - place) for place in range(LONGEST // 2)]
        self.assertIs(shows_plan(order, plan), True)
        self.assertIs(shows_plan(order, plan[1:]), False)

    def test_what_is_handed_in_stays(self):
        order, plan = [1, 2, 0], list(RING_OF_THREE)
        shows_plan(order, plan)
        shows_plan(order, [["take", [0]]])
        self.assertEqual((order, plan), ([1, 2, 0], RING_OF_THREE))


class Told(unittest.TestCase):

    def test_by_names(self):
        self.assertEqual(walked(plan=[], n=1), ("done", [0], (0,)))
        self.assertIs(shows_plan(plan=[], order=[0]), True)

    def test_is_the_askers_own(self):
        plan = list(RING_OF_THREE)
        one, other = walked(3, plan), walked(3, plan)
        self.assertTrue(all_apart(plan, one, other))
        one[1][0] = 9
        one[1].append(7)
        self.assertEqual(other, ("done", [1, 2, 0], (2, 1, 1)))
        self.assertEqual(walked(3, plan), other)
        plan.clear()
        self.assertEqual(other, ("done", [1, 2, 0], (2, 1, 1)))

    def test_a_refusal_changes_nothing(self):
        plan = [("swap", 0, 1), ("swap", 1, 1)]
        for place in (1, 1):
            with self.assertRaises(BadPlan) as caught:
                walked(2, plan)
            self.assertEqual(caught.exception.place, place)
        self.assertEqual(walked(2, plan[:1]), ("done", [1, 0], (1, 1)))


if __name__ == "__main__":
    unittest.main()
