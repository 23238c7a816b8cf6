"""The interface, and promises [1] and [2] over the whole program."""

import copy
import importlib
import inspect
import itertools
import unittest

from ownturn import errors
from ownturn.deep import deep_order, deep_turns
from ownturn.errors import BadDeed, BadPlan, BadRing, BadRow, NoMatch, NotDone, TurnError
from ownturn.exchanging import exchanges, shows_exchanges
from ownturn.finding import leaders_found, shows_leaders, walks, walks_both, walks_marked
from ownturn.gathering import gather_order, gather_plan, part_plan
from ownturn.orders import after, back_of, is_order, put, staying, times
from ownturn.plans import by_rings, by_swaps, fewest_moves, fewest_swaps, moved_by
from ownturn.rings import leaders, order_by, rings
from ownturn.rolls import exchange_order, exchange_plan, roll_by_swaps, roll_by_turns, roll_order
from ownturn.room import Room
from ownturn.sheet import run
from ownturn.tables import block_order, square_plan, turn_order, turn_table
from ownturn.undoing import joined, order_done, shifted, tidied, undone
from ownturn.walking import deeds_of, shows_plan, walked
from ownturn.weaving import unweave_order, weave_order, weave_parts, weave_plan

from samples import NO_DEEDS, NO_PLACES, NO_PLANS, all_apart, deeds_for, large_orders, lists_within, small_orders

INTERFACE = {
    "orders": ["is_order(thing)", "staying(n)", "put(things, order)", "after(one, other)", "back_of(order)",
               "times(order, many)", "off(order)"],
    "rings": ["rings(order)", "leaders(order)", "order_by(n, rings_told)", "turns_of(order)"],
    "walking": ["walked(n, plan)", "deeds_of(plan)", "shows_plan(order, plan)"],
    "plans": ["by_rings(order)", "by_swaps(order)", "fewest_moves(order)", "fewest_swaps(order)", "moved_by(order)"],
    "finding": ["steps_from(order, place)", "leads(order, place)", "walks(order)", "leaders_found(order)",
                "steps_both(order, place)", "walks_both(order)", "walks_marked(order, marks)", "shows_leaders(order, thing)"],
    "rolls": ["roll_order(n, k)", "roll_rings(n, k)", "turn_plan(begin, end)", "roll_by_turns(n, k)", "roll_by_swaps(n, k)",
              "exchange_plan(begin, middle, end)", "exchange_order(n, begin, middle, end)"],
    "tables": ["turn_place(rows, columns, place)", "turn_order(rows, columns)", "turn_rings(rows, columns)",
               "turn_table(rows, columns)", "square_plan(n)", "block_order(outer, rows, columns, inner)"],
    "deep": ["deep_sizes(sizes, ways)", "deep_order(sizes, ways)", "deep_after(one, other)", "deep_turns(sizes, ways)"],
    "weaving": ["weave_order(many, first)", "unweave_order(many, first)", "weave_turns(many, first)", "weave_parts(many)",
                "weave_plan(many)", "weave_moves(many)"],
    "gathering": ["gather_order(kinds)", "part_plan(marks)", "part_moves(marks)", "gather_plan(kinds)"],
    "exchanging": ["fewest_exchanges(kinds)", "exchanges(kinds)", "shows_exchanges(kinds, plan)"],
    "undoing": ["undone(plan)", "joined(plans)", "tidied(plan)", "shifted(plan, by)", "order_done(n, plan)"],
    "sheet": ["run(text)"],
}
REFUSALS = {"NoMatch": [], "BadRing": [], "BadDeed": ["word"], "BadPlan": ["place", "word"], "NotDone": ["hand"], "BadRow": ["row"]}


def nested(thing, deep):
    """The thing, so many lists and tuples deep by turns."""
    for level in range(deep):
        thing = [thing] if level % 2 else (thing,)
    return thing


ATOMS = [0, 1, 2, -1, 10 ** 18, -(10 ** 18), True, False, None, "", "a", "swap", "take", "0"]
ANYTHING = ATOMS + NO_PLACES + NO_PLANS + NO_DEEDS
ANYTHING += [nested(atom, deep) for atom in ATOMS for deep in (1, 2, 8)]
ANYTHING += [list(pair) for pair in itertools.product(ATOMS, repeat=2)]
ANYTHING += [tuple(pair) for pair in itertools.product(ATOMS, repeat=2)]
ANYTHING += [[deed] for deed in NO_DEEDS] + [(deed, ("swap", 0, 1)) for deed in NO_DEEDS]


def same(one, other):
    """Whether two things are the same, of the same kinds too."""
    if one.__class__ is not other.__class__:
        return False
    if isinstance(one, (list, tuple)):
        return len(one) == len(other) and all(same(a, b) for a, b in zip(one, other))
    return one == other


def is_right_deed(thing):
    """Whether a thing has the form of a deed of three places."""
    return any(same(thing, deed) for deed in deeds_for(3))


class Interface(unittest.TestCase):

    def test_names_and_arguments(self):
        for module, defs in INTERFACE.items():
            held = importlib.import_module("ownturn." + module)
            for told in defs:
                name, arguments = told.rstrip(")").split("(")
                asked = inspect.signature(getattr(held, name)).parameters.values()
                self.assertEqual([each.name for each in asked], arguments.split(", "), told)
                for each in asked:
                    self.assertIs(each.kind, inspect.Parameter.POSITIONAL_OR_KEYWORD, told)
                    self.assertIs(each.default, inspect.Parameter.empty, told)

    def test_room(self):
        self.assertEqual(list(inspect.signature(Room).parameters), ["n"])
        self.assertEqual(list(inspect.signature(Room.do).parameters), ["self", "thing"])
        for name in ("row_now", "hand_now", "moved_now", "twin"):
            self.assertEqual(list(inspect.signature(getattr(Room, name)).parameters), ["self"])

    def test_refusals(self):
        self.assertEqual(TurnError.__bases__, (ValueError,))
        for name, fields in REFUSALS.items():
            refusal = getattr(errors, name)
            self.assertEqual(refusal.__bases__, (TurnError,))
            values = ["a word", 7][:len(fields)]
            for made in (refusal(*values), refusal(**dict(zip(fields, values)))):
                self.assertEqual([getattr(made, field) for field in fields], values)
        self.assertEqual(str(NoMatch("why")), "why")
        self.assertEqual(str(BadRing("why")), "why")


class AskedOfAnything(unittest.TestCase):

    def test_is_order(self):
        for thing in ANYTHING:
            right = isinstance(thing, (list, tuple)) and all(part.__class__ is int for part in thing)
            right = right and sorted(thing) == list(range(len(thing)))
            self.assertIs(is_order(thing), right, thing)

    def test_places_of_rings(self):
        for thing in ANYTHING:
            right = thing.__class__ is int and thing in (1, 2)
            for ring in ([0, thing], (thing, 0)):
                if right:
                    self.assertEqual(rings(order_by(3, [ring])), [[0, thing]])
                else:
                    with self.assertRaises(BadRing, msg=ring):
                        order_by(3, [ring])

    def test_deeds_of_a_room(self):
        for thing in ANYTHING:
            if is_right_deed(thing):
                continue
            room = Room(3)
            with self.assertRaises(BadDeed, msg=thing) as caught:
                room.do(thing)
            self.assertEqual(caught.exception.word, "form")
            self.assertEqual((room.row_now(), room.hand_now(), room.moved_now()), ((0, 1, 2), None, (0, 0, 0)))

    def test_plans(self):
        for thing in ANYTHING:
            if isinstance(thing, (list, tuple)) and any(is_right_deed(part) for part in thing[:1]):
                continue
            for ask in (walked, order_done):
                before = copy.deepcopy(thing)
                if thing in ([], ()):
                    self.assertIn(ask(3, thing), ([0, 1, 2], ("done", [0, 1, 2], (0, 0, 0))))
                else:
                    with self.assertRaises(BadPlan, msg=thing) as caught:
                        ask(3, thing)
                    self.assertEqual((caught.exception.place, caught.exception.word), (0, "form"))
                self.assertTrue(same(thing, before))

    def test_checkers(self):
        for thing in ANYTHING:
            before = copy.deepcopy(thing)
            self.assertIs(shows_plan([0, 1, 2], thing), thing in ([], ()), thing)
            self.assertIs(shows_plan([1, 0, 2], thing), False)
            self.assertIs(shows_exchanges([0, 1, 2], thing), thing in ([], ()), thing)
            self.assertIs(shows_exchanges([1, 0, 2], thing), False)
            self.assertIs(shows_leaders([0, 1, 2], thing), thing in ([], ()), thing)
            right = isinstance(thing, (list, tuple)) and same(list(thing), [0])
            self.assertIs(shows_leaders([1, 0, 2], thing), right, thing)
            self.assertTrue(same(thing, before))

    def test_checkers_of_anything_in_the_stead_of_an_order(self):
        for thing in ANYTHING:
            self.assertIs(shows_plan(thing, []), is_order(thing) and list(thing) == sorted(thing), thing)
            self.assertIs(shows_leaders(thing, []), is_order(thing) and list(thing) == sorted(thing), thing)
            self.assertIn(shows_exchanges(thing, []), (True, False), thing)


class Promised(unittest.TestCase):

    def test_behind_a_told_plan_each_thing_stands_at_its_told_place(self):
        cases = [(order, plan) for order in small_orders(4) + large_orders() for plan in (by_rings(order), by_swaps(order))]
        cases += [(roll_order(60, k), plan(60, k)) for k in (0, 7, 24, -5) for plan in (roll_by_turns, roll_by_swaps)]
        cases += [(exchange_order(60, 5, 20, 55), exchange_plan(5, 20, 55)), (turn_order(7, 9), turn_table(7, 9))]
        cases += [(turn_order(8, 8), square_plan(8)), (weave_order(50, 1), weave_plan(50))]
        cases += [(gather_order(kinds), gather_plan(kinds)) for kinds in ([3, 1, 4, 1, 5, 2, 6], [7] * 9, [])]
        cases += [(gather_order(marks), part_plan(marks)) for marks in ([1, 0, 1, 1, 0, 0, 1], [1] * 9, [])]
        for order, plan in cases:
            self.assertEqual(order_done(len(order), plan), order)
            self.assertIs(shows_plan(order, plan), True)
            self.assertEqual(order_done(len(order), undone(plan)), back_of(order))
            self.assertEqual(order_done(len(order), tidied(plan)), order)
            self.assertEqual(order_done(len(order), joined([plan, undone(plan)])), staying(len(order)))
            self.assertEqual(order_done(len(order), joined((plan, plan))), after(order, order))
            self.assertEqual(order_done(len(order) + 2, shifted(plan, 2))[2:], [place + 2 for place in order])

    def test_no_place_ever_has_two(self):
        for order in large_orders():
            room = Room(len(order))
            for deed in by_rings(order):
                room.do(deed)
                held = [thing for thing in room.row_now() + (room.hand_now(),) if thing is not None]
                self.assertEqual(len(set(held)), len(order))

    def test_moves_are_as_many_as_told(self):
        for order in small_orders(5) + large_orders():
            self.assertEqual(list(walked(len(order), by_rings(order))[2]), moved_by(order))
            self.assertEqual(len(by_rings(order)), fewest_moves(order))
            self.assertEqual(deeds_of(by_swaps(order)), (fewest_swaps(order), 0, 0, 0))


class HandedIn(unittest.TestCase):

    def test_stays_and_is_told_alike_as_list_or_tuple(self):
        order, plan = [2, 0, 1, 4, 3], by_rings([2, 0, 1, 4, 3])
        for ask, asked in [
            (is_order, (order,)), (put, (list("abcde"), order)), (after, (order, [0, 2, 1, 3, 4])), (back_of, (order,)),
            (times, (order, -7)), (rings, (order,)), (leaders, (order,)), (order_by, (5, [[2, 0], [1, 4]])), (walked, (5, plan)),
            (deeds_of, (plan,)), (shows_plan, (order, plan)), (by_rings, (order,)), (by_swaps, (order,)), (moved_by, (order,)),
            (walks, (order,)), (walks_both, (order,)), (walks_marked, (order, 3)), (leaders_found, (order,)),
            (shows_leaders, (order, [0, 3])), (deep_order, ([2, 3, 2], [2, 0, 1])), (deep_turns, ([2, 3, 2], [2, 1, 0])),
            (gather_order, (order,)), (gather_plan, (order,)), (part_plan, ([1, 0, 1, 0],)), (exchanges, ([1, 2, 0, 1],)),
            (shows_exchanges, ([1, 2, 0], [("swap", 0, 1), ("swap", 0, 2)])), (undone, (plan,)), (joined, ([plan, undone(plan)],)),
            (tidied, (plan + undone(plan),)), (shifted, (plan, -3)), (order_done, (5, plan)),
        ]:
            before, asked = asked, copy.deepcopy(asked)
            told = ask(*asked)
            self.assertTrue(same(asked, before), ask.__name__)
            as_tuples = tuple(tuple(part) if isinstance(part, list) else part for part in asked)
            self.assertTrue(same(ask(*as_tuples), told), ask.__name__)
            self.assertTrue(all_apart(told, asked), ask.__name__)
            for part in list(lists_within(told)):
                part.append("changed")
            self.assertTrue(same(asked, before), ask.__name__)
            told = ask(*asked)
            for part in list(lists_within(list(asked))):
                part.clear()
            self.assertTrue(same(ask(*before), told), ask.__name__)

    def test_what_was_told_is_changed_by_nothing_later(self):
        order = [1, 2, 0]
        told = [ask(order) for ask in (back_of, rings, leaders, by_rings, by_swaps, moved_by, walks, leaders_found, gather_order)]
        before = copy.deepcopy(told)
        order.reverse()
        order.append(3)
        for ask in (back_of, rings, leaders, by_rings, by_swaps, moved_by, walks, leaders_found, gather_order):
            ask(order)
        self.assertEqual(told, before)

    def test_a_room_keeps_nothing_that_is_told(self):
        room = Room(3)
        row, moved, twin = room.row_now(), room.moved_now(), room.twin()
        room.do(("swap", 0, 1))
        self.assertEqual((row, moved, twin.row_now()), ((0, 1, 2), (0, 0, 0), (0, 1, 2)))

    def test_numbers_are_never_true_or_false(self):
        told = [
            by_rings([1, 0]), by_swaps([1, 0]), moved_by([1, 0]), walks([0, 1]), walks_marked([1, 0], 1), turn_order(2, 1),
            block_order(1, 2, 1, 1), weave_order(1, 1), unweave_order(1, 0), weave_parts(2), gather_order([1, 0]),
            exchanges([1, 0]), roll_order(2, 1), walked(2, [("swap", 0, 1)]), deeds_of([("take", 0)]), leaders_found([1, 0]),
        ]

        def atoms(thing):
            return [atom for part in thing for atom in atoms(part)] if isinstance(thing, (list, tuple)) else [thing]

        for atom in atoms(told):
            self.assertIn(atom.__class__, (int, str))


class Refused(unittest.TestCase):

    def test_each_by_its_own_class(self):
        for ask, kind in [
            (lambda: put([1], []), NoMatch), (lambda: after([0], [0, 1]), NoMatch), (lambda: order_by(2, [[0]]), BadRing),
            (lambda: Room(1).do(("lay", 0)), BadDeed), (lambda: walked(1, 0), BadPlan), (lambda: order_done(1, 0), BadPlan),
            (lambda: order_done(1, [("take", 0)]), NotDone), (lambda: run(""), BadRow),
        ]:
            with self.assertRaises(TurnError) as caught:
                ask()
            self.assertIs(caught.exception.__class__, kind)


if __name__ == "__main__":
    unittest.main()
