"""Promise [15], and [2] as far as it speaks of exchanging.py."""

import copy
import itertools
import unittest

from ownturn.exchanging import exchanges, fewest_exchanges, shows_exchanges
from ownturn.orders import put
from ownturn.walking import deeds_of, walked

from samples import NO_DEEDS, NO_PLACES, NO_PLANS, all_apart

SMALL = [kinds for n in range(8) for kinds in itertools.product((0, 1, 2), repeat=n)]
LARGE = [
    [0] * 200, [1] * 200, [2] * 200, [0, 1] * 100, [1, 0] * 100, [2, 0] * 100, [2, 1] * 100, [0, 1, 2] * 66, [2, 1, 0] * 66,
    [1] * 66 + [2] * 67 + [0] * 66, [2] * 66 + [0] * 67 + [1] * 66, [2] * 100 + [1] * 50 + [0] * 50, [2] * 199 + [0],
    [place * place % 7 % 3 for place in range(199)], [place * 5 % 13 % 3 for place in range(201)],
    [1] * 40 + [2] * 60 + [0] * 100, [0] * 70 + [1] * 60 + [2] * 70,
]


def swaps_of(n):
    """Every swap of two places, the lesser one first."""
    return [("swap", a, b) for a in range(n) for b in range(a + 1, n)]


def exchanged(kinds, a, b):
    """The kinds with those of two places exchanged."""
    row = list(kinds)
    row[a], row[b] = row[b], row[a]
    return tuple(row)


def fewest_by_trying(n):
    """For all kinds of n places the fewest swaps, found outward from those that rise."""
    fewest = {kinds: 0 for kinds in itertools.product((0, 1, 2), repeat=n) if sorted(kinds) == list(kinds)}
    reached = list(fewest)
    while reached:
        further = []
        for kinds in reached:
            for word, a, b in swaps_of(n):
                row = exchanged(kinds, a, b)
                if row not in fewest:
                    fewest[row] = fewest[kinds] + 1
                    further.append(row)
        reached = further
    return fewest


def by_the_words(kinds):
    """The fewest, reckoned as the document tells."""
    goals = sorted(kinds)
    m = [[0] * 3 for kind in range(3)]
    for goal, kind in zip(goals, kinds):
        m[goal][kind] += 1
    pairs = sum(min(m[i][j], m[j][i]) for i, j in [(0, 1), (0, 2), (1, 2)])
    left = sum(m[i][j] for i in range(3) for j in range(3) if i != j) - 2 * pairs
    return pairs + left // 3 * 2


class FewestExchanges(unittest.TestCase):

    def test_written_out(self):
        for kinds, many in [
            ([], 0), ([0], 0), ([2], 0), ([1, 1, 1], 0), ([0, 1, 2], 0), ([0, 0, 1, 1, 2, 2], 0), ([1, 0], 1), ([2, 0], 1),
            ([2, 1], 1), ([2, 1, 0], 1), ([1, 2, 0], 2), ([2, 0, 1], 2), ([1, 0, 2], 1), ([1, 1, 2, 2, 0, 0], 4),
            ([2, 2, 0, 0, 1, 1], 4), ([1, 2, 0, 1, 2, 0], 2), ([1, 0, 2, 1], 2), ([1, 2, 0, 0], 2), ([2, 2, 0, 1], 2),
        ]:
            told = fewest_exchanges(kinds=kinds)
            self.assertEqual(told, many, kinds)
            self.assertIs(told.__class__, int)

    def test_no_plan_has_fewer(self):
        for n in range(8):
            for kinds, many in fewest_by_trying(n).items():
                self.assertEqual(fewest_exchanges(kinds), many, kinds)

    def test_as_the_words_say(self):
        for kinds in SMALL + LARGE:
            self.assertEqual(fewest_exchanges(kinds), by_the_words(kinds), kinds)

    def test_three_going_round(self):
        for many in (1, 2, 66):
            for first, second, third in [(1, 2, 0), (2, 0, 1)]:
                self.assertEqual(fewest_exchanges([first] * many + [second] * many + [third] * many), 2 * many)

    def test_lists_for_tuples(self):
        for kinds in SMALL[:400]:
            self.assertEqual(fewest_exchanges(list(kinds)), fewest_exchanges(kinds))


class Exchanges(unittest.TestCase):

    def test_nothing_to_do(self):
        for kinds in ([], [0], [1], [2], [1, 1], [0, 1, 2], [0] * 200, [0] * 70 + [1] * 60 + [2] * 70, (), (2, 2)):
            told = exchanges(kinds=kinds)
            self.assertEqual(told, [])
            self.assertIsInstance(told, list)

    def test_one_swap_alone(self):
        for kinds, places in [([1, 0], {0, 1}), ([2, 1, 0], {0, 2}), ([0, 2, 1], {1, 2})]:
            (word, a, b), = exchanges(kinds)
            self.assertEqual((word, {a, b}), ("swap", places))

    def test_walked_kinds_rise(self):
        for kinds in SMALL + LARGE:
            told, order, moved = walked(len(kinds), exchanges(kinds))
            self.assertEqual((told, put(kinds, order)), ("done", sorted(kinds)), kinds)

    def test_as_few_swaps_as_can_be(self):
        for kinds in SMALL + LARGE:
            self.assertEqual(deeds_of(exchanges(kinds)), (fewest_exchanges(kinds), 0, 0, 0), kinds)

    def test_shown(self):
        for kinds in SMALL + LARGE:
            plan = exchanges(kinds)
            self.assertIs(shows_exchanges(kinds, plan), True, kinds)
            self.assertIs(shows_exchanges(list(kinds), tuple(plan)), True, kinds)

    def test_lists_for_tuples(self):
        for kinds in SMALL[:400]:
            told = exchanges(list(kinds))
            self.assertEqual(told, exchanges(kinds))
            self.assertIsInstance(told, list)


class ShowsExchanges(unittest.TestCase):

    def test_every_plan_of_few_swaps(self):
        for n in range(5):
            deeds = swaps_of(n) + [("swap", b, a) for word, a, b in swaps_of(n)]
            plans = [plan for many in range(3) for plan in itertools.product(deeds, repeat=many)]
            for kinds, fewest in fewest_by_trying(n).items():
                for plan in plans:
                    row = kinds
                    for word, a, b in plan:
                        row = exchanged(row, a, b)
                    shown = list(row) == sorted(row) and len(plan) == fewest
                    self.assertIs(shows_exchanges(kinds=kinds, plan=list(plan)), shown, (kinds, plan))

    def test_more_swaps_than_needed(self):
        for kinds in LARGE + [(), (0, 1), (1, 2, 0)]:
            plan = exchanges(kinds)
            if len(kinds) > 1:
                self.assertIs(shows_exchanges(kinds, plan + [("swap", 0, 1)] * 2), False)
                self.assertIs(shows_exchanges(kinds, [("swap", 0, 1)] * 2 + plan), False)

    def test_fewer_swaps_than_needed(self):
        for kinds in LARGE:
            plan = exchanges(kinds)
            if plan:
                self.assertIs(shows_exchanges(kinds, plan[1:]), False)
                self.assertIs(shows_exchanges(kinds, plan[:-1]), False)
                self.assertIs(shows_exchanges(kinds, []), False)

    def test_as_many_that_do_something_else(self):
        self.assertIs(shows_exchanges([1, 0, 2], [("swap", 0, 1)]), True)
        self.assertIs(shows_exchanges([1, 0, 2], [("swap", 1, 0)]), True)
        self.assertIs(shows_exchanges([1, 0, 2], [("swap", 0, 2)]), False)
        self.assertIs(shows_exchanges([1, 2, 0], [("swap", 0, 1), ("swap", 0, 1)]), False)

    def test_nothing_else_than_swaps(self):
        self.assertIs(shows_exchanges([1, 0], [("take", 0), ("move", 1, 0), ("lay", 1)]), False)
        self.assertIs(shows_exchanges([1, 0], [("swap", 0, 1), ("take", 0), ("lay", 0)]), False)
        self.assertIs(shows_exchanges([1, 0], [("take", 0)]), False)
        self.assertIs(shows_exchanges([1, 0], [("swap", 0, 1), ("take", 0)]), False)
        self.assertIs(shows_exchanges([0, 1], [("take", 0), ("lay", 0)]), False)
        self.assertIs(shows_exchanges([0, 1], [("take", 0)]), False)
        self.assertIs(shows_exchanges([0], [("take", 0)]), False)

    def test_places_of_another_row(self):
        self.assertIs(shows_exchanges([1, 0], [("swap", 0, 2)]), False)
        self.assertIs(shows_exchanges([1, 0], [("swap", -1, 0)]), False)
        self.assertIs(shows_exchanges([1, 0], [("swap", True, False)]), False)
        self.assertIs(shows_exchanges([1, 0], [("swap", 0, 0)]), False)
        self.assertIs(shows_exchanges([], [("swap", 0, 1)]), False)

    def test_deeds_are_tuples(self):
        self.assertIs(shows_exchanges([1, 0], [["swap", 0, 1]]), False)
        self.assertIs(shows_exchanges([1, 0], ("swap", 0, 1)), False)

    def test_things_that_are_no_plan(self):
        for thing in NO_PLANS:
            for kinds in ([], [0], [1, 0], (2, 1, 0)):
                self.assertIs(shows_exchanges(kinds, thing), False, (kinds, thing))
        for thing in NO_DEEDS:
            self.assertIs(shows_exchanges([2, 1, 0], [thing]), False, thing)
            self.assertIs(shows_exchanges([0, 1, 2], [thing]), False, thing)
            self.assertIs(shows_exchanges([2, 0, 1], [("swap", 0, 1), thing]), False, thing)

    def test_things_that_are_no_kinds(self):
        for thing in NO_PLANS + NO_PLACES[:1] + [[True, 0], [1, False], [3], [-1], [None], ["0"], [[0]], (0, 10 ** 18)]:
            self.assertIs(shows_exchanges(thing, []), False, thing)
            self.assertIs(shows_exchanges(thing, [("swap", 0, 1)]), False, thing)


class HandedInAndTold(unittest.TestCase):

    def test_what_is_handed_in_stays(self):
        for kinds in LARGE + [[1, 2, 0], [2, 1, 0, 0]]:
            asked, plan = list(kinds), exchanges(kinds)
            before = copy.deepcopy(plan)
            fewest_exchanges(asked)
            exchanges(asked)
            shows_exchanges(asked, plan)
            self.assertEqual((asked, plan), (kinds, before))

    def test_is_the_askers_own(self):
        for asked in ([], [0, 1], [1, 2, 0], [2, 1, 0, 0]):
            one, other = exchanges(asked), exchanges(asked)
            before = list(other)
            self.assertTrue(all_apart(asked, one, other))
            one.reverse()
            one.append(None)
            self.assertEqual(other, before)
            self.assertEqual(exchanges(asked), before)


if __name__ == "__main__":
    unittest.main()
