"""Rings: the rounds of places along which the things of an order go."""

from ownturn.errors import BadRing
from ownturn.orders import is_place, staying


def ring_from(order, first):
    """The places that the thing at first comes to, one behind the other, until it is back."""
    ring = [first]
    place = order[first]
    while place != first:
        ring.append(place)
        place = order[place]
    return ring


def rings(order):
    """The list of the order's rings, each from its least place on, rising by these."""
    seen = [False] * len(order)
    found = []
    for first in range(len(order)):
        # A place that isn't seen yet is the least of its ring, as lesser ones came ahead.
        if not seen[first]:
            ring = ring_from(order, first)
            for place in ring:
                seen[place] = True
            if len(ring) > 1:
                found.append(ring)
    return found


def leaders(order):
    """The list of the least places of the order's rings."""
    return [ring[0] for ring in rings(order)]


def mark_ring(ring, seen):
    """Sets the marks of the ring's places; refused where it can't be a ring beside those marked."""
    if len(ring) < 2:
        raise BadRing("a ring has fewer than two places")
    for place in ring:
        if not is_place(place, len(seen)):
            raise BadRing("a ring has something that is no place of the row")
        if seen[place]:
            raise BadRing("a place stands twice in the rings")
        seen[place] = True


def order_by(n, rings_told):
    """The order of n places that has these rings, begun anywhere and in any order."""
    order = staying(n)
    seen = [False] * n
    for ring in rings_told:
        mark_ring(ring, seen)
        for at, place in enumerate(ring):
            # Ahead of the first place stands the last one: ring[-1] closes the ring.
            order[ring[at - 1]] = place
    return order


def common_divisor(one, other):
    """The greatest common divisor of two numbers of which none is below 0."""
    while other > 0:
        one, other = other, one % other
    return one


def turns_of(order):
    """The least number, 1 or more, of times that leave all as they stood."""
    turns = 1
    for ring in rings(order):
        turns = turns // common_divisor(turns, len(ring)) * len(ring)
    return turns
