"""Tables that stand row by row in a row of things, turned to their other side."""

from ownturn.plans import by_rings
from ownturn.rings import leaders


def turn_place(rows, columns, place):
    """Where the thing at a place goes as the table is turned to its other side."""
    return place % columns * rows + place // columns


def turn_order(rows, columns):
    """The order by which a table is turned to its other side."""
    return [turn_place(rows, columns, place) for place in range(rows * columns)]


def turn_rings(rows, columns):
    """How many rings the order of a turned table has."""
    return len(leaders(turn_order(rows, columns)))


def turn_table(rows, columns):
    """The plan, ring by ring, that turns a table to its other side."""
    return by_rings(turn_order(rows, columns))


def square_plan(n):
    """The plan of swaps that turns a table of n rows and n columns."""
    return [("swap", r * n + c, c * n + r) for r in range(n) for c in range(r + 1, n)]


def block_order(outer, rows, columns, inner):
    """The order that turns so many tables, one behind the other, whose cells are stretches of inner things."""
    goals = turn_order(rows, columns)
    cells = [table * len(goals) + goal for table in range(outer) for goal in goals]
    return [cell * inner + at for cell in cells for at in range(inner)]
