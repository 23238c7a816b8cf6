"""Plans undone, joined, tidied and shifted, and the orders of those that are done."""

from ownturn.errors import NotDone
from ownturn.walking import walked


def back_deed(deed):
    """The deed that takes a deed back."""
    word = deed[0]
    if word == "take":
        return ("lay", deed[1])
    if word == "lay":
        return ("take", deed[1])
    if word == "move":
        return ("move", deed[2], deed[1])
    return deed


def undone(plan):
    """The plan that takes a plan back."""
    return [back_deed(deed) for deed in plan[::-1]]


def joined(plans):
    """The plan of all deeds of the plans, one behind the other."""
    return [deed for plan in plans for deed in plan]


def undoes(deed, last):
    """Whether a deed undoes the one ahead of it."""
    if deed[0] == "swap" and last[0] == "swap":
        # The places of a swap may be told either way about.
        return sorted(deed[1:]) == sorted(last[1:])
    return deed == back_deed(last)


def tidied(plan):
    """The plan of the deeds that are left where each that undoes the last one left goes with that one."""
    left = []
    for deed in plan:
        if len(left) > 0 and undoes(deed, left[-1]):
            left.pop()
        else:
            left.append(deed)
    return left


def shifted(plan, by):
    """The plan with each place greater by so much."""
    return [(deed[0],) + tuple([place + by for place in deed[1:]]) for deed in plan]


def order_done(n, plan):
    """The order of a plan that is done; refused as walked refuses it, or where a thing is left in the hand."""
    told = walked(n, plan)
    if told[0] == "open":
        raise NotDone(told[2])
    return told[1]
