"""Like kinds brought together, each as they stood."""

from ownturn.orders import back_of, put
from ownturn.rolls import exchange_plan


def gather_order(kinds):
    """The order by which things stand by rising kinds, like ones as they stood."""
    # Python's own sorting leaves like ones as they stood.
    row = sorted(range(len(kinds)), key=lambda place: kinds[place])
    return back_of(row)


def part_stretch(marks, begin, end):
    """The plan that parts the stretch from begin to end - 1."""
    if end - begin < 2:
        return []
    middle = begin + (end - begin) // 2
    plan = part_stretch(marks, begin, middle) + part_stretch(marks, middle, end)
    ones_from = begin + marks[begin:middle].count(0)
    noughts_to = middle + marks[middle:end].count(0)
    return plan + exchange_plan(ones_from, middle, noughts_to)


def part_plan(marks):
    """The plan, without swaps, that brings those of mark 0 ahead of those of mark 1, each as they stood."""
    return part_stretch(marks, 0, len(marks))


def part_moves(marks):
    """How many deeds part_plan has."""
    return len(part_plan(marks))


def gather_plan(kinds):
    """The plan, without swaps, that parts by the figures by twos of the kinds, the last one first."""
    plan = []
    row = list(kinds)
    for worth in (1, 2, 4):
        marks = [kind // worth % 2 for kind in row]
        plan.extend(part_plan(marks))
        row = put(row, gather_order(marks))
    return plan
