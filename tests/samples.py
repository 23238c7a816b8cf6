"""What several tests ask with: orders of all kinds, and things that are nothing of the sort."""

import itertools

LONGEST = 400


def small_orders(most):
    """Every order of 0 to most places."""
    return [list(order) for n in range(most + 1) for order in itertools.permutations(range(n))]


def long_ring(n):
    """The order of one ring through all places."""
    return [(place + 1) % n for place in range(n)]


def many_rings(sizes):
    """The order of rings of these sizes, one behind the other (1: a thing that stays)."""
    order = []
    for size in sizes:
        begin = len(order)
        order += [begin + (place + 1) % size for place in range(size)]
    return order


def spread(n, by, on):
    """The order k to by * k + on, where by and n have no common divisor."""
    return [(by * place + on) % n for place in range(n)]


def large_orders():
    """Orders of up to 400 places: staying, turned about, one long ring, many rings, spread ones."""
    return [
        list(range(LONGEST)),
        list(range(LONGEST))[::-1],
        long_ring(LONGEST),
        long_ring(399),
        many_rings([2, 3, 5, 7, 11, 13, 17, 19, 23, 29, 31, 37, 41, 43, 47, 49]),
        many_rings([1, 2] * 133),
        spread(LONGEST, 7, 3),
        spread(LONGEST, 3, 0),
        spread(397, 5, 0),
        spread(101, 2, 50),
    ]


# No place of any row: by kind, or by its number.
NO_PLACES = [
    True, False, None, "", "0", "a", [], [0], (), (0,), [[0]], [[[[[[[[0]]]]]]]],
    -1, -2, LONGEST, LONGEST + 1, 10 ** 18, -(10 ** 18),
]

# No list and no tuple, so no plan of any row.
NO_PLANS = [
    None, True, False, 0, 1, -1, 10 ** 18, "", "take", "done", "swap 0 1",
]

# No deed of any row of three places: by kind, by its word, by how many it has, or by its places.
NO_DEEDS = [
    None, True, False, 0, 1, "", "swap", "take", (), [], [[]], ((),), [("take", 0)], (("take", 0),), ["take", 0],
    ["swap", 0, 1], ["move", 0, 1], ["lay", 0], (0, "take"), ("Take", 0), ("put", 0, 1), (None, 0), (["take"], 0),
    (("take",), 0), ("take",), ("lay",), ("swap", 0), ("move", 0), ("take", 0, 1), ("lay", 0, 1), ("swap", 0, 1, 2),
    ("swap", (0, 1)), ("take", [0]), ("take", None), ("take", "0"), ("take", 3), ("take", -1), ("swap", 0, 3),
    ("swap", -1, 0), ("move", 0, 10 ** 18), ("take", True), ("swap", False, True), ("lay", False), [[[[[[[["take"]]]]]]]],
]


def deeds_for(n):
    """Every deed with the form of one in a row of n places."""
    places = range(n)
    deeds = [(word, a) for word in ("take", "lay") for a in places]
    return deeds + [(word, a, b) for word in ("swap", "move") for a in places for b in places]


def lists_within(thing):
    """Every list in a thing, itself too."""
    if isinstance(thing, list):
        yield thing
    if isinstance(thing, (list, tuple)):
        for part in thing:
            yield from lists_within(part)


def all_apart(*things):
    """Whether no two lists in these things are one and the same."""
    found = [id(part) for thing in things for part in lists_within(thing)]
    return len(found) == len(set(found))
