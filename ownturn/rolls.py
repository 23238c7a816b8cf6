"""Rows rolled, and stretches turned about and exchanged."""

from ownturn.orders import staying
from ownturn.plans import by_swaps, round_ring
from ownturn.rings import common_divisor, rings


def roll_order(n, k):
    """The order by which each thing goes k places on, from the last place to the first one."""
    return [(place + k) % n for place in range(n)]


def stays(n, k):
    """Whether nothing moves where n places are rolled k places on."""
    return n == 0 or k % n == 0


def roll_rings(n, k):
    """The pair (how many, how long) of the rings of a roll."""
    if stays(n, k):
        return (0, 0)
    many = common_divisor(n, k % n)
    return (many, n // many)


def turn_plan(begin, end):
    """The plan of swaps that turns the stretch from begin to end - 1 about."""
    half = (end - begin) // 2
    return [("swap", begin + at, end - 1 - at) for at in range(half)]


def roll_by_turns(n, k):
    """The plan that rolls by turning about the whole row, then its first places, then the others."""
    if stays(n, k):
        return []
    rest = k % n
    return turn_plan(0, n) + turn_plan(0, rest) + turn_plan(rest, n)


def roll_by_swaps(n, k):
    """A plan of swaps alone that rolls with as few as can be."""
    return by_swaps(roll_order(n, k))


def exchange_plan(begin, middle, end):
    """The plan, without swaps, behind which the things from begin to middle - 1 stand behind the others up to end."""
    plan = []
    for ring in rings(roll_order(end - begin, end - middle)):
        plan.extend(round_ring([begin + place for place in ring]))
    return plan


def exchange_order(n, begin, middle, end):
    """The order of n places of exchange_plan."""
    order = staying(n)
    for at, goal in enumerate(roll_order(end - begin, end - middle)):
        order[begin + at] = begin + goal
    return order
