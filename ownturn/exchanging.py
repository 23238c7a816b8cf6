"""Three kinds made to rise by as few swaps as can be, like ones not as they stood."""

from ownturn.errors import BadPlan
from ownturn.orders import is_place
from ownturn.walking import deeds_of, room_behind

PAIRS = ((0, 1), (0, 2), (1, 2))

# Both ways round by three: each pair tells whose stand it is, and which kind stands there.
ROUNDS = (((0, 1), (1, 2), (2, 0)), ((0, 2), (2, 1), (1, 0)))


def places_by_kinds(kinds):
    """For each pair (i, j) the list of the places where kind i is to stand and kind j stands."""
    found = {(i, j): [] for i in range(3) for j in range(3)}
    for place, goal in enumerate(sorted(kinds)):
        found[(goal, kinds[place])].append(place)
    return found


def fewest_exchanges(kinds):
    """The fewest swaps of any plan of swaps behind which the kinds rise."""
    found = places_by_kinds(kinds)
    swaps = sum([min(len(found[(i, j)]), len(found[(j, i)])) for i, j in PAIRS])
    # What two kinds don't exchange goes round by three, so it is as much for each two of them.
    rounds = abs(len(found[(0, 1)]) - len(found[(1, 0)]))
    return swaps + 2 * rounds


def exchanges(kinds):
    """A plan of as few swaps behind which the kinds rise."""
    found = places_by_kinds(kinds)
    plan = []
    for i, j in PAIRS:
        one = found[(i, j)]
        other = found[(j, i)]
        plan.extend([("swap", a, b) for a, b in zip(one, other)])
        both = min(len(one), len(other))
        found[(i, j)] = one[both:]
        found[(j, i)] = other[both:]
    for first, second, third in ROUNDS:
        for a, b, c in zip(found[first], found[second], found[third]):
            plan.extend([("swap", a, b), ("swap", a, c)])
    return plan


def are_kinds(thing):
    """Whether a thing is a list or tuple of numbers from 0 to 2."""
    return isinstance(thing, (list, tuple)) and all([is_place(kind, 3) for kind in thing])


def shows_exchanges(kinds, plan):
    """Whether a thing is a plan of so many swaps, and nothing else, behind which the kinds rise."""
    if not are_kinds(kinds):
        return False
    try:
        room = room_behind(len(kinds), plan)
    except BadPlan:
        return False
    if deeds_of(plan) != (fewest_exchanges(kinds), 0, 0, 0):
        return False
    return [kinds[thing] for thing in room.row_now()] == sorted(kinds)
