"""Orders: where the thing of each place goes, and how orders are put together and taken back."""

from ownturn.errors import NoMatch


def is_place(thing, n):
    """Whether a thing is one of the places 0 to n - 1."""
    # True and False are whole numbers to Python, and places to nobody.
    if isinstance(thing, bool) or not isinstance(thing, int):
        return False
    return 0 <= thing < n


def is_order(thing):
    """Whether a thing is a list or tuple with each number from 0 to its length less one once."""
    if not isinstance(thing, (list, tuple)):
        return False
    seen = [False] * len(thing)
    for place in thing:
        if not is_place(place, len(thing)) or seen[place]:
            return False
        seen[place] = True
    return True


def staying(n):
    """The order of n places in which each thing stays."""
    return list(range(n))


def own_copy(thing):
    """The thing, with lists of its own in the stead of those that it has."""
    if isinstance(thing, list):
        return [own_copy(part) for part in thing]
    if isinstance(thing, tuple):
        return tuple([own_copy(part) for part in thing])
    return thing


def put(things, order):
    """The list of things as they stand behind the order."""
    if len(things) != len(order):
        raise NoMatch("there are not as many things as the order has places")
    row = [None] * len(order)
    for place, thing in zip(order, things):
        # Lists among the things stay the asker's: the row is told with copies.
        row[place] = own_copy(thing)
    return row


def after(one, other):
    """The order that does what one does, and then other."""
    if len(one) != len(other):
        raise NoMatch("the two orders have not as many places")
    return [other[place] for place in one]


def back_of(order):
    """The order that puts back what the order does."""
    back = [0] * len(order)
    for place, goal in enumerate(order):
        back[goal] = place
    return back


def times(order, many):
    """The order done so many times; with many below 0, its back_of so many times the other way."""
    step = order if many >= 0 else back_of(order)
    left = abs(many)
    reached = staying(len(order))
    # Doubling the step keeps this short, however great many is.
    while left > 0:
        if left % 2 == 1:
            reached = after(reached, step)
        step = after(step, step)
        left //= 2
    return reached


def off(order):
    """How many places have things that don't stay."""
    return len([place for place, goal in enumerate(order) if place != goal])
