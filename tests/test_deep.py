"""Promise [12], and [2] as far as it speaks of deep.py."""

import itertools
import unittest

from ownturn.deep import deep_after, deep_order, deep_sizes, deep_turns
from ownturn.orders import after, back_of, is_order, put, staying
from ownturn.tables import block_order, turn_order

from samples import all_apart

WAYS = list(itertools.permutations(range(3)))
SMALL = list(itertools.product((1, 2, 3, 4), repeat=3))
LARGE = [(1, 1, 400), (1, 400, 1), (400, 1, 1), (20, 20, 1), (1, 20, 20), (20, 1, 20), (8, 5, 10), (7, 7, 8), (2, 100, 2)]
HOW_MANY = {(0, 1, 2): 0, (0, 2, 1): 1, (1, 0, 2): 1, (1, 2, 0): 1, (2, 0, 1): 1, (2, 1, 0): 2}


def order_by_cells(sizes, ways):
    """The order, by a look-up of where each cell stands in the new table."""
    new_sizes = [sizes[way] for way in ways]
    place_of = {cell: at for at, cell in enumerate(itertools.product(*[range(size) for size in new_sizes]))}
    cells = itertools.product(*[range(size) for size in sizes])
    return [place_of[tuple(cell[way] for way in ways)] for cell in cells]


class DeepSizes(unittest.TestCase):

    def test_written_out(self):
        for ways, sizes in [
            ((0, 1, 2), (7, 8, 9)), ((0, 2, 1), (7, 9, 8)), ((1, 0, 2), (8, 7, 9)), ((1, 2, 0), (8, 9, 7)),
            ((2, 0, 1), (9, 7, 8)), ((2, 1, 0), (9, 8, 7)),
        ]:
            told = deep_sizes(sizes=(7, 8, 9), ways=ways)
            self.assertEqual(told, sizes, ways)
            self.assertIs(told.__class__, tuple)

    def test_lists_for_tuples(self):
        for ways in WAYS:
            told = deep_sizes([7, 8, 9], list(ways))
            self.assertEqual(told, deep_sizes((7, 8, 9), ways))
            self.assertIs(told.__class__, tuple)


class DeepOrder(unittest.TestCase):

    def test_written_out(self):
        for sizes, ways, order in [
            ((1, 1, 1), (2, 1, 0), [0]), ((2, 1, 1), (1, 2, 0), [0, 1]), ((2, 2, 1), (1, 0, 2), [0, 2, 1, 3]),
            ((1, 2, 3), (0, 2, 1), [0, 2, 4, 1, 3, 5]), ((2, 2, 2), (2, 1, 0), [0, 4, 2, 6, 1, 5, 3, 7]),
            ((2, 2, 2), (1, 2, 0), [0, 2, 4, 6, 1, 3, 5, 7]), ((2, 2, 2), (2, 0, 1), [0, 4, 1, 5, 2, 6, 3, 7]),
            ((2, 2, 2), (1, 0, 2), [0, 1, 4, 5, 2, 3, 6, 7]), ((2, 2, 2), (0, 2, 1), [0, 2, 1, 3, 4, 6, 5, 7]),
            ((2, 2, 2), (0, 1, 2), [0, 1, 2, 3, 4, 5, 6, 7]),
            ((2, 3, 2), (2, 1, 0), [0, 6, 2, 8, 4, 10, 1, 7, 3, 9, 5, 11]),
        ]:
            told = deep_order(sizes=sizes, ways=ways)
            self.assertEqual(told, order, (sizes, ways))
            self.assertIsInstance(told, list)

    def test_each_thing_goes_to_its_cell(self):
        for sizes in SMALL + LARGE:
            for ways in WAYS:
                order = deep_order(sizes, ways)
                self.assertTrue(is_order(order))
                self.assertEqual(order, order_by_cells(sizes, ways), (sizes, ways))

    def test_nothing_moves_by_the_ways_as_they_are(self):
        for sizes in SMALL + LARGE:
            self.assertEqual(deep_order(sizes, (0, 1, 2)), staying(sizes[0] * sizes[1] * sizes[2]))

    def test_a_size_of_one_leaves_a_table_of_two_ways(self):
        for rows, columns in itertools.product(range(1, 6), repeat=2):
            turned = turn_order(rows, columns)
            self.assertEqual(deep_order((1, rows, columns), (0, 2, 1)), turned)
            self.assertEqual(deep_order((rows, columns, 1), (1, 0, 2)), turned)
            self.assertEqual(deep_order((rows, 1, columns), (2, 1, 0)), turned)

    def test_lists_for_tuples(self):
        for ways in WAYS:
            self.assertEqual(deep_order([2, 3, 4], list(ways)), deep_order((2, 3, 4), ways))


class DeepAfter(unittest.TestCase):

    def test_written_out(self):
        for one, other, both in [
            ((0, 1, 2), (0, 1, 2), (0, 1, 2)), ((0, 1, 2), (1, 2, 0), (1, 2, 0)), ((1, 2, 0), (0, 1, 2), (1, 2, 0)),
            ((1, 2, 0), (1, 2, 0), (2, 0, 1)), ((1, 2, 0), (2, 0, 1), (0, 1, 2)), ((1, 0, 2), (0, 2, 1), (1, 2, 0)),
            ((0, 2, 1), (1, 0, 2), (2, 0, 1)), ((2, 1, 0), (2, 1, 0), (0, 1, 2)), ((1, 2, 0), (1, 0, 2), (2, 1, 0)),
        ]:
            told = deep_after(one=one, other=other)
            self.assertEqual(told, both, (one, other))
            self.assertIs(told.__class__, tuple)

    def test_the_one_and_then_in_the_new_sizes_the_other(self):
        for sizes in [(2, 3, 4), (4, 3, 2), (1, 2, 3), (3, 1, 2), (5, 7, 11)]:
            for one, other in itertools.product(WAYS, repeat=2):
                both = after(deep_order(sizes, one), deep_order(deep_sizes(sizes, one), other))
                self.assertEqual(deep_order(sizes, deep_after(one, other)), both, (sizes, one, other))
                self.assertEqual(
                    deep_sizes(sizes, deep_after(one, other)), deep_sizes(deep_sizes(sizes, one), other))

    def test_lists_for_tuples(self):
        for one, other in itertools.product(WAYS, repeat=2):
            told = deep_after(list(one), list(other))
            self.assertEqual(told, deep_after(one, other))
            self.assertIs(told.__class__, tuple)

    def test_each_ways_have_ways_back(self):
        for one in WAYS:
            self.assertEqual(deep_after(one, tuple(back_of(one))), (0, 1, 2))


class DeepTurns(unittest.TestCase):

    def test_how_many_whatever_the_sizes(self):
        for sizes in SMALL + LARGE:
            for ways in WAYS:
                told = deep_turns(sizes=sizes, ways=ways)
                self.assertIsInstance(told, list)
                self.assertEqual(len(told), HOW_MANY[ways], (sizes, ways))

    def test_each_is_a_tuple_of_four_sizes(self):
        for sizes in SMALL + LARGE:
            for ways in WAYS:
                for turn in deep_turns(sizes, ways):
                    self.assertIs(turn.__class__, tuple)
                    self.assertEqual(len(turn), 4)
                    self.assertTrue(all(size.__class__ is int and size >= 1 for size in turn), turn)

    def test_one_after_the_other_they_come_to_the_order(self):
        for sizes in SMALL + LARGE:
            for ways in WAYS:
                order = staying(sizes[0] * sizes[1] * sizes[2])
                for outer, rows, columns, inner in deep_turns(sizes, ways):
                    order = after(order, block_order(outer, rows, columns, inner))
                self.assertEqual(order, deep_order(sizes, ways), (sizes, ways))

    def test_lists_for_tuples(self):
        for ways in WAYS:
            self.assertEqual(deep_turns([2, 3, 4], list(ways)), deep_turns((2, 3, 4), ways))


class HandedInAndTold(unittest.TestCase):

    def test_what_is_handed_in_stays(self):
        for ask in (deep_sizes, deep_order, deep_turns):
            for ways in WAYS:
                sizes, asked = [2, 3, 4], list(ways)
                ask(sizes, asked)
                self.assertEqual((sizes, asked), ([2, 3, 4], list(ways)))
        for one, other in itertools.product(WAYS, repeat=2):
            asked = [list(one), list(other)]
            deep_after(*asked)
            self.assertEqual(asked, [list(one), list(other)])

    def test_is_the_askers_own(self):
        for ask in (deep_order, deep_turns):
            for ways in WAYS:
                one, other = ask((2, 3, 4), ways), ask((2, 3, 4), ways)
                before = list(other)
                self.assertTrue(all_apart(one, other))
                one.reverse()
                one.append(None)
                self.assertEqual(other, before)
                self.assertEqual(ask((2, 3, 4), ways), before)

    def test_things_are_put_by_the_order(self):
        # A box of two layers, each of two rows and three columns: seen from the side, columns are layers.
        row = list("abcdefghijkl")
        self.assertEqual("".join(put(row, deep_order((2, 2, 3), (2, 0, 1)))), "adgjbehkcfil")
        self.assertEqual("".join(put(row, deep_order((2, 2, 3), (2, 1, 0)))), "agdjbhekcifl")


if __name__ == "__main__":
    unittest.main()
