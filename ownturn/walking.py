"""Plans: lists of deeds, and what they come to, walked deed by deed."""

from ownturn.errors import BadDeed, BadPlan
from ownturn.orders import back_of, is_order
from ownturn.room import Room


def room_behind(n, plan):
    """The Room of n places as it stands behind the plan, or the refusal of its first deed that can't be done."""
    if not isinstance(plan, (list, tuple)):
        raise BadPlan(0, "form")
    room = Room(n)
    for at, deed in enumerate(plan):
        try:
            room.do(deed)
        except BadDeed as refusal:
            raise BadPlan(at, refusal.word)
    return room


def walked(n, plan):
    """What a plan comes to: ("done", order, moved), or ("open", row, hand, moved) with a thing in the hand."""
    room = room_behind(n, plan)
    row = room.row_now()
    hand = room.hand_now()
    moved = room.moved_now()
    if hand is not None:
        return ("open", row, hand, moved)
    # The row tells each place's thing, the order each thing's place.
    return ("done", back_of(row), moved)


def deeds_of(plan):
    """The tuple of how many swaps, takes, moves and lays a plan has."""
    words = [deed[0] for deed in plan]
    return tuple([words.count(word) for word in ("swap", "take", "move", "lay")])


def shows_plan(order, plan):
    """Whether a thing is a plan that is done, and whose order this is."""
    if not is_order(order):
        return False
    try:
        told = walked(len(order), plan)
    except BadPlan:
        return False
    return told[0] == "done" and told[1] == list(order)
