"""Promise [14], and [2] as far as it speaks of gathering.py."""

import itertools
import unittest

from ownturn.gathering import gather_order, gather_plan, part_moves, part_plan
from ownturn.orders import is_order, put
from ownturn.rolls import exchange_plan
from ownturn.walking import deeds_of, shows_plan, walked

from samples import all_apart

MARKS = [list(marks) for n in range(9) for marks in itertools.product((0, 1), repeat=n)]
LARGE_MARKS = [
    [0] * 200, [1] * 200, [0, 1] * 100, [1, 0] * 100, [0] * 100 + [1] * 100, [1] * 100 + [0] * 100, [1] * 199 + [0],
    [1] + [0] * 199, [1, 1, 0] * 66, [0] * 199, [1] * 199, [1, 0, 0, 1, 0] * 39,
    [place * place % 7 % 2 for place in range(199)],
]
KINDS = [list(kinds) for n in range(5) for kinds in itertools.product((0, 1, 3, 6, 7), repeat=n)]
LARGE_KINDS = [
    [0] * 200, [7] * 200, [7, 6, 5, 4, 3, 2, 1, 0] * 25, [0, 1, 2, 3, 4, 5, 6, 7] * 25,
    [place * place % 11 % 8 for place in range(199)], [place * 5 % 8 for place in range(201)],
    [7 - place // 25 for place in range(200)], [place // 25 for place in range(200)],
]


def gathered(kinds):
    """The places, as they stand by rising kinds, like ones as they stood."""
    return [place for kind in range(8) for place in range(len(kinds)) if kinds[place] == kind]


def parted(marks):
    """The plan as the document tells it, upon marks that are cut in two, and the places in them shifted on."""
    if len(marks) < 2:
        return []
    half = len(marks) // 2
    first, second = marks[:half], marks[half:]
    plan = parted(first)
    for deed in parted(second):
        plan.append((deed[0],) + tuple(place + half for place in deed[1:]))
    return plan + exchange_plan(half - sum(first), half, len(marks) - sum(second))


class GatherOrder(unittest.TestCase):

    def test_written_out(self):
        for kinds, order in [
            ([], []), ([5], [0]), ([0, 0, 0], [0, 1, 2]), ([7, 7], [0, 1]), ([1, 0], [1, 0]), ([0, 1], [0, 1]),
            ([2, 0, 2, 1, 0], [3, 0, 4, 2, 1]), ([7, 6, 5, 4, 3, 2, 1, 0], [7, 6, 5, 4, 3, 2, 1, 0]),
            ([0, 1, 2, 3, 4, 5, 6, 7], [0, 1, 2, 3, 4, 5, 6, 7]), ([3, 3, 1, 3, 1], [2, 3, 0, 4, 1]),
        ]:
            told = gather_order(kinds=kinds)
            self.assertEqual(told, order, kinds)
            self.assertIsInstance(told, list)

    def test_like_ones_as_they_stood(self):
        for kinds in KINDS + LARGE_KINDS:
            order = gather_order(kinds)
            self.assertTrue(is_order(order))
            self.assertEqual(put(list(range(len(kinds))), order), gathered(kinds), kinds)

    def test_nothing_moves_where_kinds_rise_already(self):
        for kinds in KINDS:
            self.assertEqual(gather_order(sorted(kinds)), list(range(len(kinds))))

    def test_tuples_for_lists(self):
        for kinds in KINDS:
            told = gather_order(tuple(kinds))
            self.assertEqual(told, gather_order(kinds))
            self.assertIsInstance(told, list)


class PartPlan(unittest.TestCase):

    def test_written_out(self):
        for marks, plan in [
            ([], []), ([0], []), ([1], []), ([0, 1], []), ([0, 0], []), ([1, 1], []),
            ([1, 0], [("take", 0), ("move", 1, 0), ("lay", 1)]),
            ([1, 1, 0], [("take", 1), ("move", 2, 1), ("lay", 2), ("take", 0), ("move", 1, 0), ("lay", 1)]),
            ([1, 0, 0], [("take", 0), ("move", 1, 0), ("move", 2, 1), ("lay", 2)]),
            ([1, 0, 1], [("take", 0), ("move", 1, 0), ("lay", 1)]),
            ([0, 1, 0], [("take", 1), ("move", 2, 1), ("lay", 2)]),
            ([1, 0, 1, 0], [("take", 0), ("move", 1, 0), ("lay", 1), ("take", 2), ("move", 3, 2), ("lay", 3),
                            ("take", 1), ("move", 2, 1), ("lay", 2)]),
            ([1, 1, 0, 0], [("take", 0), ("move", 2, 0), ("lay", 2), ("take", 1), ("move", 3, 1), ("lay", 3)]),
            ([0, 1, 1, 1, 0], [("take", 3), ("move", 4, 3), ("lay", 4), ("take", 2), ("move", 3, 2), ("lay", 3),
                               ("take", 1), ("move", 2, 1), ("lay", 2)]),
        ]:
            told = part_plan(marks=marks)
            self.assertEqual(told, plan, marks)
            self.assertIsInstance(told, list)

    def test_walked_noughts_come_ahead_as_they_stood(self):
        for marks in MARKS + LARGE_MARKS:
            told, order, moved = walked(len(marks), part_plan(marks))
            self.assertEqual((told, put(list(range(len(marks))), order)), ("done", gathered(marks)), marks)

    def test_in_the_very_order_told(self):
        for marks in MARKS + LARGE_MARKS:
            self.assertEqual(part_plan(marks), parted(marks), marks)

    def test_nothing_moves_where_marks_are_parted_already(self):
        for n in (0, 1, 2, 3, 7, 199, 200):
            for noughts in {0, n // 3, n // 2, n}:
                self.assertEqual(part_plan([0] * noughts + [1] * (n - noughts)), [])

    def test_without_swaps(self):
        for marks in MARKS + LARGE_MARKS:
            swaps, takes, moves, lays = deeds_of(part_plan(marks))
            self.assertEqual((swaps, takes), (0, lays))

    def test_tuples_for_lists(self):
        for marks in MARKS + LARGE_MARKS:
            told = part_plan(tuple(marks))
            self.assertEqual(told, part_plan(marks))
            self.assertIsInstance(told, list)


class PartMoves(unittest.TestCase):

    def test_written_out(self):
        for marks, moves in [
            ([], 0), ([0], 0), ([1], 0), ([1, 1], 0), ([0, 0], 0), ([1, 0], 3), ([1, 1, 0], 6), ([1, 0, 0], 4),
            ([1, 0, 1, 0], 9), ([1, 1, 0, 0], 6), ([0, 1, 1, 1, 0], 9), ([1] * 100 + [0] * 100, 300), ([1] * 200, 0),
        ]:
            told = part_moves(marks=marks)
            self.assertEqual(told, moves, marks)
            self.assertIs(told.__class__, int)

    def test_as_many_as_the_plan_has(self):
        for marks in MARKS + LARGE_MARKS:
            self.assertEqual(part_moves(marks), len(parted(marks)), marks)
            self.assertEqual(part_moves(tuple(marks)), len(part_plan(marks)))


class GatherPlan(unittest.TestCase):

    def test_written_out(self):
        for kinds, plan in [
            ([], []), ([4], []), ([3, 3, 3], []), ([0, 1, 2, 3], [("take", 1), ("move", 2, 1), ("lay", 2)] * 2),
            ([1, 0], [("take", 0), ("move", 1, 0), ("lay", 1)]),
            ([2, 1], [("take", 0), ("move", 1, 0), ("lay", 1)]),
            ([1, 2], [("take", 0), ("move", 1, 0), ("lay", 1)] * 2),
            ([4, 3], [("take", 0), ("move", 1, 0), ("lay", 1)]),
            ([3, 4], [("take", 0), ("move", 1, 0), ("lay", 1)] * 2),
            ([5, 2], [("take", 0), ("move", 1, 0), ("lay", 1)] * 3),
            ([7, 0], [("take", 0), ("move", 1, 0), ("lay", 1)]),
            ([6, 1], [("take", 0), ("move", 1, 0), ("lay", 1)]),
            ([0, 7], []),
        ]:
            told = gather_plan(kinds=kinds)
            self.assertEqual(told, plan, kinds)
            self.assertIsInstance(told, list)

    def test_walked_it_gathers(self):
        for kinds in KINDS + LARGE_KINDS:
            self.assertIs(shows_plan(gather_order(kinds), gather_plan(kinds)), True, kinds)
            told, order, moved = walked(len(kinds), gather_plan(kinds))
            self.assertEqual(put(list(range(len(kinds))), order), gathered(kinds))

    def test_three_partings_one_behind_the_other(self):
        for kinds in KINDS + LARGE_KINDS:
            row, plan = list(kinds), []
            for figure in (-1, -2, -3):
                marks = [int(f"{kind:03b}"[figure]) for kind in row]
                plan += parted(marks)
                row = [kind for mark in (0, 1) for kind, had in zip(row, marks) if had == mark]
            self.assertEqual(gather_plan(kinds), plan, kinds)
            self.assertEqual(row, sorted(kinds))

    def test_tuples_for_lists(self):
        for kinds in KINDS:
            told = gather_plan(tuple(kinds))
            self.assertEqual(told, gather_plan(kinds))
            self.assertIsInstance(told, list)


class HandedInAndTold(unittest.TestCase):

    def test_what_is_handed_in_stays(self):
        for ask in (gather_order, gather_plan):
            for kinds in KINDS + LARGE_KINDS:
                asked = list(kinds)
                ask(asked)
                self.assertEqual(asked, kinds)
        for ask in (part_plan, part_moves):
            for marks in MARKS + LARGE_MARKS:
                asked = list(marks)
                ask(asked)
                self.assertEqual(asked, marks)

    def test_is_the_askers_own(self):
        for ask in (gather_order, part_plan, gather_plan):
            for asked in ([], [0], [1, 0], [1, 0, 1, 1, 0, 0]):
                one, other = ask(asked), ask(asked)
                before = list(other)
                self.assertTrue(all_apart(asked, one, other))
                one.reverse()
                one.append(None)
                self.assertEqual(other, before)
                self.assertEqual(ask(asked), before)

    def test_places_are_numbers(self):
        for kinds in KINDS:
            self.assertTrue(all(place.__class__ is int for place in gather_order(kinds)))

    def test_what_is_told_may_be_handed_in_again(self):
        for kinds in LARGE_KINDS:
            self.assertEqual(walked(len(kinds), tuple(gather_plan(kinds)))[1], gather_order(kinds))


if __name__ == "__main__":
    unittest.main()
