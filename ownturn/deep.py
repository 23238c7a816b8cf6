"""Tables of three ways, whose ways are put in another order."""


def by_ways(three, ways):
    """The tuple of the three that belong to the ways, in the order of the ways."""
    return tuple([three[way] for way in ways])


def deep_place(sizes, cell):
    """The place that the thing of a cell has in a table of these sizes."""
    return (cell[0] * sizes[1] + cell[1]) * sizes[2] + cell[2]


def deep_sizes(sizes, ways):
    """The tuple of the sizes behind the ways."""
    return by_ways(sizes, ways)


def deep_order(sizes, ways):
    """The order by which the things of a table go to where the ways bring them."""
    reached = by_ways(sizes, ways)
    size0, size1, size2 = sizes
    cells = [(x0, x1, x2) for x0 in range(size0) for x1 in range(size1) for x2 in range(size2)]
    return [deep_place(reached, by_ways(cell, ways)) for cell in cells]


def deep_after(one, other):
    """The ways that do what the ways one do, and then, in the new sizes, other."""
    return by_ways(one, other)


def deep_turns(sizes, ways):
    """The list of at most two (outer, rows, columns, inner) whose block_orders, one after the other, do the same."""
    size0, size1, size2 = sizes
    asked = tuple(ways)
    if asked == (0, 1, 2):
        return []
    if asked == (0, 2, 1):
        return [(size0, size1, size2, 1)]
    if asked == (1, 0, 2):
        return [(1, size0, size1, size2)]
    # Two neighbouring ways that stay side by side are one way of both sizes together.
    if asked == (2, 0, 1):
        return [(1, size0 * size1, size2, 1)]
    first_to_end = (1, size0, size1 * size2, 1)
    if asked == (1, 2, 0):
        return [first_to_end]
    return [first_to_end, (1, size1, size2, size0)]
