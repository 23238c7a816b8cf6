"""Rows woven of their two halves, thing by thing, and unwoven."""

from ownturn.orders import back_of
from ownturn.plans import round_ring
from ownturn.rings import ring_from
from ownturn.rolls import exchange_plan


def weave_order(many, first):
    """The order by which two halves of many things each are woven; the first half's first thing goes to first."""
    one = [2 * at + first for at in range(many)]
    other = [2 * at + 1 - first for at in range(many)]
    return one + other


def unweave_order(many, first):
    """The order that puts back what weave_order does."""
    return back_of(weave_order(many, first))


def weave_turns(many, first):
    """The least number, 1 or more, of weavings that leave all as they stood."""
    # A weaving doubles each place, counted from 1 on with first 1, and takes its rest by this number.
    by = 2 * many + 1 if first == 1 else 2 * many - 1
    if by <= 1:
        return 1
    turns = 1
    rest = 2
    while rest != 1:
        rest = rest * 2 % by
        turns += 1
    return turns


def part_within(left):
    """The greatest of 1, 4, 13 and so on that isn't more than what is left, which is 1 or more."""
    part = 1
    while 3 * part + 1 <= left:
        part = 3 * part + 1
    return part


def weave_parts(many):
    """The list of the parts by which weave_plan goes."""
    parts = []
    left = many
    while left > 0:
        part = part_within(left)
        parts.append(part)
        left -= part
    return parts


def round_weave(begin, part):
    """The deeds that weave two halves of a part's things each, from begin on."""
    order = weave_order(part, 1)
    deeds = []
    # With a part of weave_parts each power of 3 leads a ring, and no other place does: none has to be sought.
    power = 1
    while power <= 2 * part:
        ring = ring_from(order, power - 1)
        deeds.extend(round_ring([begin + place for place in ring]))
        power *= 3
    return deeds


def weave_plan(many):
    """The plan, without swaps, that weaves two halves of many things each with first 1, part by part."""
    plan = []
    begin = 0
    left = many
    for part in weave_parts(many):
        # The part's things of the second half come to stand right behind those of the first one.
        plan.extend(exchange_plan(begin + part, begin + left, begin + left + part))
        plan.extend(round_weave(begin, part))
        begin += 2 * part
        left -= part
    return plan


def weave_moves(many):
    """How many deeds weave_plan has."""
    return len(weave_plan(many))
