"""The first places of rings, found by going from place to place, with few marks or none."""

from ownturn.orders import back_of, is_order, is_place
from ownturn.rings import leaders, ring_from


def walk_of(order, place):
    """The pair of a place's walk: how many steps it has, and the place where it ends."""
    at = order[place]
    steps = 1
    while at > place:
        at = order[at]
        steps += 1
    return (steps, at)


def steps_from(order, place):
    """How many steps the walk of a place has."""
    return walk_of(order, place)[0]


def leads(order, place):
    """Whether the walk of a place ends at itself."""
    return walk_of(order, place)[1] == place


def walks(order):
    """The list of the steps of all places' walks."""
    return [steps_from(order, place) for place in range(len(order))]


def leaders_found(order):
    """The pair of the places that lead and whose things don't stay, and the steps of all walks together."""
    found = [place for place, goal in enumerate(order) if place != goal and leads(order, place)]
    return (found, sum(walks(order)))


def steps_by_turns(order, back, place):
    """How many steps it takes, one by the order and one by its back_of by turns, to a place no greater."""
    ahead = place
    behind = place
    steps = 0
    while True:
        ahead = order[ahead]
        steps += 1
        if ahead <= place:
            return steps
        behind = back[behind]
        steps += 1
        if behind <= place:
            return steps


def steps_both(order, place):
    """How many steps the walk of a place has both ways by turns."""
    return steps_by_turns(order, back_of(order), place)


def walks_both(order):
    """The list of the steps of all places' walks both ways by turns."""
    back = back_of(order)
    return [steps_by_turns(order, back, place) for place in range(len(order))]


def set_marks(order, first, marked):
    """Sets the marks of the places of a ring, as far as they have one."""
    for place in ring_from(order, first):
        if place < len(marked):
            marked[place] = True


def walks_marked(order, marks):
    """The list of the steps of all places, where those below marks are passed over once their ring is found."""
    marked = [False] * marks
    counts = []
    for place in range(len(order)):
        if place < marks and marked[place]:
            counts.append(0)
        else:
            counts.append(steps_from(order, place))
            if leads(order, place):
                set_marks(order, place, marked)
    return counts


def shows_leaders(order, thing):
    """Whether a thing is just the list or tuple that leaders tells of the order."""
    if not is_order(order) or not isinstance(thing, (list, tuple)):
        return False
    # True and False are equal to 1 and 0, and lead nothing.
    if not all([is_place(part, len(order)) for part in thing]):
        return False
    return list(thing) == leaders(order)
