"""Plans that go round each ring of an order, and how few moves or swaps do."""

from ownturn.orders import off
from ownturn.rings import leaders, rings


def round_ring(ring):
    """The deeds that bring each thing of a ring one place on in it, by way of the hand."""
    deeds = [("take", ring[0])]
    # From the last place back: the place that a thing goes to has just been left.
    goal = ring[0]
    for place in ring[:0:-1]:
        deeds.append(("move", place, goal))
        goal = place
    deeds.append(("lay", goal))
    return deeds


def by_rings(order):
    """The plan, without swaps, that goes ring by ring."""
    plan = []
    for ring in rings(order):
        plan.extend(round_ring(ring))
    return plan


def by_swaps(order):
    """The plan of swaps that exchanges each ring's first place with each other one of it."""
    return [("swap", ring[0], place) for ring in rings(order) for place in ring[1:]]


def fewest_moves(order):
    """The fewest deeds of any plan without swaps that has this order."""
    return off(order) + len(rings(order))


def fewest_swaps(order):
    """The fewest deeds of any plan of swaps alone that has this order."""
    return off(order) - len(rings(order))


def moved_by(order):
    """The list of how often by_rings moves each thing."""
    counts = [0 if place == goal else 1 for place, goal in enumerate(order)]
    # A ring's first thing goes by way of the hand.
    for first in leaders(order):
        counts[first] = 2
    return counts
