"""Promise [11], and [2] as far as it speaks of tables.py."""

import math
import unittest

from ownturn.orders import after, back_of, is_order, off, put, staying
from ownturn.plans import by_rings, fewest_moves, fewest_swaps
from ownturn.rings import rings
from ownturn.tables import block_order, square_plan, turn_order, turn_place, turn_rings, turn_table
from ownturn.walking import deeds_of, shows_plan, walked

from samples import LONGEST, all_apart

TABLES = [(rows, columns) for rows in range(1, 8) for columns in range(1, 8)]
LARGE = [(1, LONGEST), (LONGEST, 1), (2, 200), (200, 2), (20, 20), (16, 25), (25, 16), (19, 21), (3, 133), (133, 3)]
BLOCKS = [
    (outer, rows, columns, inner)
    for outer in range(1, 4) for rows in range(1, 5) for columns in range(1, 5) for inner in range(1, 4)
]
LARGE_BLOCKS = [(LONGEST, 1, 1, 1), (1, 1, 1, LONGEST), (4, 10, 10, 1), (1, 10, 10, 4), (2, 2, 10, 10), (5, 4, 4, 5)]


def as_rows(row, columns):
    """The table's rows, as lists."""
    return [row[begin:begin + columns] for begin in range(0, len(row), columns)]


def turned(row, columns):
    """The row of the table turned to its other side, column by column."""
    return [row_of[c] for c in range(columns) for row_of in as_rows(row, columns)]


def blocks_turned(row, outer, rows, columns, inner):
    """The row of the tables, each turned with its cells' stretches whole."""
    stretches = as_rows(row, inner)
    size = rows * columns
    told = []
    for table in range(outer):
        for stretch in turned(stretches[table * size:(table + 1) * size], columns):
            told += stretch
    return told


def rings_counted(rows, columns):
    """How many rings of two places or more: each place but the last is multiplied by rows, by their count less one."""
    last = rows * columns - 1
    seen = bytearray(last)
    many = 0
    for first in range(last):
        if not seen[first]:
            place, size = first, 0
            while not seen[place]:
                seen[place] = 1
                place = place * rows % last
                size += 1
            many += size > 1
    return many


class TurnPlace(unittest.TestCase):

    def test_written_out(self):
        for rows, columns, place, goal in [
            (1, 1, 0, 0), (2, 3, 0, 0), (2, 3, 1, 2), (2, 3, 2, 4), (2, 3, 3, 1), (2, 3, 4, 3), (2, 3, 5, 5),
            (3, 2, 1, 3), (3, 2, 2, 1), (3, 2, 3, 4), (3, 2, 4, 2), (1, 5, 3, 3), (5, 1, 3, 3), (4, 4, 7, 13),
            (1000, 1000, 999, 999000), (10 ** 9, 10 ** 9, 10 ** 9 - 1, 10 ** 18 - 10 ** 9),
            (10 ** 9, 10 ** 9, 10 ** 18 - 1, 10 ** 18 - 1), (10 ** 18, 1, 10 ** 17 + 3, 10 ** 17 + 3),
            (1, 10 ** 18, 10 ** 18 - 2, 10 ** 18 - 2),
        ]:
            told = turn_place(rows=rows, columns=columns, place=place)
            self.assertEqual(told, goal, (rows, columns, place))
            self.assertIs(told.__class__, int)

    def test_row_and_column_are_exchanged(self):
        for rows, columns in TABLES:
            for r in range(rows):
                for c in range(columns):
                    self.assertEqual(turn_place(rows, columns, r * columns + c), c * rows + r)

    def test_turned_twice_is_back(self):
        for rows, columns in TABLES + LARGE:
            for place in range(rows * columns):
                self.assertEqual(turn_place(columns, rows, turn_place(rows, columns, place)), place)


class TurnOrder(unittest.TestCase):

    def test_written_out(self):
        for rows, columns, order in [
            (1, 1, [0]), (1, 4, [0, 1, 2, 3]), (4, 1, [0, 1, 2, 3]), (2, 2, [0, 2, 1, 3]), (2, 3, [0, 2, 4, 1, 3, 5]),
            (3, 2, [0, 3, 1, 4, 2, 5]), (3, 3, [0, 3, 6, 1, 4, 7, 2, 5, 8]),
        ]:
            told = turn_order(rows=rows, columns=columns)
            self.assertEqual(told, order, (rows, columns))
            self.assertIsInstance(told, list)

    def test_things_stand_column_by_column(self):
        for rows, columns in TABLES + LARGE:
            row = list(range(rows * columns))
            self.assertEqual(put(row, turn_order(rows, columns)), turned(row, columns), (rows, columns))

    def test_the_other_side_puts_back(self):
        for rows, columns in TABLES + LARGE:
            self.assertEqual(turn_order(columns, rows), back_of(turn_order(rows, columns)), (rows, columns))

    def test_how_many_things_stay(self):
        for rows, columns in TABLES[1:] + LARGE:
            many = rows * columns - off(turn_order(rows, columns))
            self.assertEqual(many, math.gcd(rows - 1, columns - 1) + 1, (rows, columns))


class TurnRings(unittest.TestCase):

    def test_written_out(self):
        for rows, columns, many in [
            (1, 1, 0), (1, 7, 0), (7, 1, 0), (1, LONGEST, 0), (LONGEST, 1, 0), (2, 2, 1), (2, 3, 1), (3, 2, 1), (3, 3, 3),
            (2, 4, 2), (4, 4, 6), (20, 20, 190),
        ]:
            told = turn_rings(rows=rows, columns=columns)
            self.assertEqual(told, many, (rows, columns))
            self.assertIs(told.__class__, int)

    def test_as_rings_tells_them(self):
        for rows, columns in TABLES + LARGE:
            order = turn_order(rows, columns)
            self.assertEqual(turn_rings(rows, columns), len(rings(order)), (rows, columns))
            self.assertEqual(turn_rings(rows, columns), rings_counted(rows, columns), (rows, columns))

    def test_of_a_million_places(self):
        for rows, columns in [(999, 1001), (8, 125000)]:
            self.assertEqual(turn_rings(rows, columns), rings_counted(rows, columns), (rows, columns))

    def test_of_a_million_places_one_way_and_square(self):
        self.assertEqual(turn_rings(1, 10 ** 6), 0)
        self.assertEqual(turn_rings(10 ** 6, 1), 0)
        self.assertEqual(turn_rings(1000, 1000), 1000 * 999 // 2)


class TurnTable(unittest.TestCase):

    def test_written_out(self):
        for rows, columns, plan in [
            (1, 1, []), (1, 6, []), (6, 1, []), (2, 2, [("take", 1), ("move", 2, 1), ("lay", 2)]),
            (2, 3, [("take", 1), ("move", 3, 1), ("move", 4, 3), ("move", 2, 4), ("lay", 2)]),
            (3, 2, [("take", 1), ("move", 2, 1), ("move", 4, 2), ("move", 3, 4), ("lay", 3)]),
            (2, 4, [("take", 1), ("move", 4, 1), ("move", 2, 4), ("lay", 2),
                    ("take", 3), ("move", 5, 3), ("move", 6, 5), ("lay", 6)]),
        ]:
            told = turn_table(rows=rows, columns=columns)
            self.assertEqual(told, plan, (rows, columns))
            self.assertIsInstance(told, list)

    def test_as_by_rings_does(self):
        for rows, columns in TABLES + LARGE:
            self.assertEqual(turn_table(rows, columns), by_rings(turn_order(rows, columns)))

    def test_walked_it_turns(self):
        for rows, columns in TABLES + LARGE:
            row = list(range(rows * columns))
            told, order, moved = walked(len(row), turn_table(rows, columns))
            self.assertEqual((told, put(row, order)), ("done", turned(row, columns)), (rows, columns))

    def test_as_many_deeds_as_told(self):
        for rows, columns in TABLES + LARGE:
            order = turn_order(rows, columns)
            many = turn_rings(rows, columns)
            plan = turn_table(rows, columns)
            self.assertEqual(deeds_of(plan), (0, many, off(order) - many, many), (rows, columns))
            self.assertEqual(len(plan), fewest_moves(order))


class SquarePlan(unittest.TestCase):

    def test_written_out(self):
        for n, plan in [
            (1, []), (2, [("swap", 1, 2)]), (3, [("swap", 1, 3), ("swap", 2, 6), ("swap", 5, 7)]),
            (4, [("swap", 1, 4), ("swap", 2, 8), ("swap", 3, 12), ("swap", 6, 9), ("swap", 7, 13), ("swap", 11, 14)]),
        ]:
            told = square_plan(n=n)
            self.assertEqual(told, plan, n)
            self.assertIsInstance(told, list)

    def test_walked_it_turns(self):
        for n in range(1, 21):
            self.assertIs(shows_plan(turn_order(n, n), square_plan(n)), True, n)

    def test_as_many_swaps_as_told(self):
        for n in range(1, 21):
            self.assertEqual(deeds_of(square_plan(n)), (n * (n - 1) // 2, 0, 0, 0))
            self.assertEqual(len(square_plan(n)), fewest_swaps(turn_order(n, n)))

    def test_rows_first_then_columns(self):
        plan = square_plan(20)
        self.assertEqual(sorted(plan), plan)
        for word, one, other in plan:
            self.assertLess(one // 20, one % 20)
            self.assertEqual(other, one % 20 * 20 + one // 20)


class BlockOrder(unittest.TestCase):

    def test_written_out(self):
        for outer, rows, columns, inner, order in [
            (1, 1, 1, 1, [0]), (3, 1, 1, 2, [0, 1, 2, 3, 4, 5]), (2, 1, 2, 1, [0, 1, 2, 3]),
            (1, 2, 2, 2, [0, 1, 4, 5, 2, 3, 6, 7]), (2, 2, 2, 1, [0, 2, 1, 3, 4, 6, 5, 7]),
            (1, 2, 3, 1, [0, 2, 4, 1, 3, 5]), (1, 3, 2, 2, [0, 1, 6, 7, 2, 3, 8, 9, 4, 5, 10, 11]),
            (2, 2, 3, 1, [0, 2, 4, 1, 3, 5, 6, 8, 10, 7, 9, 11]),
        ]:
            told = block_order(outer=outer, rows=rows, columns=columns, inner=inner)
            self.assertEqual(told, order, (outer, rows, columns, inner))
            self.assertIsInstance(told, list)

    def test_each_table_is_turned_and_stretches_stay_whole(self):
        for asked in BLOCKS + LARGE_BLOCKS:
            outer, rows, columns, inner = asked
            row = list(range(outer * rows * columns * inner))
            order = block_order(*asked)
            self.assertTrue(is_order(order), asked)
            self.assertEqual(put(row, order), blocks_turned(row, *asked), asked)

    def test_one_table_of_single_things(self):
        for rows, columns in TABLES + LARGE:
            self.assertEqual(block_order(1, rows, columns, 1), turn_order(rows, columns))

    def test_the_other_side_puts_back(self):
        for outer, rows, columns, inner in BLOCKS + LARGE_BLOCKS:
            one = block_order(outer, rows, columns, inner)
            other = block_order(outer, columns, rows, inner)
            self.assertEqual(after(one, other), staying(len(one)))

    def test_nothing_moves_of_one_row_or_column(self):
        for outer, inner in [(1, 1), (3, 1), (1, 4), (2, 5)]:
            for size in (1, 2, 9):
                self.assertEqual(off(block_order(outer, 1, size, inner)), 0)
                self.assertEqual(off(block_order(outer, size, 1, inner)), 0)


class Told(unittest.TestCase):

    def test_is_the_askers_own(self):
        for ask, asked in [
            (turn_order, (2, 3)), (turn_table, (2, 3)), (square_plan, (3,)), (block_order, (2, 2, 2, 2)),
            (turn_order, (1, 1)), (turn_table, (1, 5)), (square_plan, (1,)), (block_order, (1, 1, 1, 1)),
        ]:
            one, other = ask(*asked), ask(*asked)
            before = list(other)
            self.assertTrue(all_apart(one, other))
            one.reverse()
            one.append(None)
            self.assertEqual(other, before)
            self.assertEqual(ask(*asked), before)

    def test_places_are_numbers(self):
        for rows, columns in TABLES + LARGE:
            self.assertTrue(all(place.__class__ is int for place in turn_order(rows, columns)))
        for asked in BLOCKS:
            self.assertTrue(all(place.__class__ is int for place in block_order(*asked)))

    def test_what_is_told_may_be_handed_in_again(self):
        for rows, columns in LARGE:
            many, plan = rows * columns, turn_table(rows, columns)
            self.assertEqual(walked(many, plan)[1], turn_order(rows, columns))
            self.assertEqual(walked(many, tuple(plan))[1], turn_order(rows, columns))


if __name__ == "__main__":
    unittest.main()
