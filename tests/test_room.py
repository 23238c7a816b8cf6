"""Promise [5], and [2] as far as it speaks of room.py."""

import itertools
import unittest

from ownturn.errors import BadDeed, TurnError
from ownturn.room import Room

from samples import LONGEST, NO_PLACES, deeds_for


def stands(room):
    """All that a Room tells of itself."""
    return room.row_now(), room.hand_now(), room.moved_now()


def reckon(row, hand, deed):
    """What the document asks of a well-formed deed: a word why not, or (row, hand, things moved)."""
    row = list(row)
    word, a, b = deed[0], deed[1], deed[-1]
    if word == "swap":
        why = "same" if a == b else "empty" if None in (row[a], row[b]) else None
        row[a], row[b] = row[b], row[a]
        return why or (tuple(row), hand, [row[a], row[b]])
    if word == "take":
        why = "full" if hand is not None else "empty" if row[a] is None else None
        hand, row[a] = row[a], None
        return why or (tuple(row), hand, [hand])
    if word == "move":
        why = "same" if a == b else "full" if row[b] is not None else "empty" if row[a] is None else None
        row[b], row[a] = row[a], None
        return why or (tuple(row), hand, [row[b]])
    why = "full" if row[b] is not None else "empty" if hand is None else None
    row[b] = hand
    return why or (tuple(row), None, [row[b]])


class Asking(unittest.TestCase):

    def refused(self, room, thing, word):
        before = stands(room)
        with self.assertRaises(BadDeed, msg=thing) as caught:
            room.do(thing)
        self.assertEqual(caught.exception.word, word, (thing, before))
        self.assertEqual(stands(room), before)

    def done(self, room, *deeds):
        for deed in deeds:
            self.assertIsNone(room.do(deed))


class AtFirst(Asking):

    def test_things_stand_at_their_places(self):
        for n in (0, 1, 2, 5, LONGEST):
            room = Room(n)
            self.assertEqual(stands(room), (tuple(range(n)), None, (0,) * n))
            self.assertIsInstance(room.row_now(), tuple)
            self.assertIsInstance(room.moved_now(), tuple)

    def test_by_names(self):
        room = Room(n=2)
        self.assertIsNone(room.do(thing=("swap", 0, 1)))
        self.assertEqual(room.row_now(), (1, 0))

    def test_rooms_are_apart(self):
        one, other = Room(2), Room(2)
        one.do(("swap", 0, 1))
        self.assertEqual(stands(other), ((0, 1), None, (0, 0)))


class Deeds(Asking):

    def test_swap(self):
        room = Room(4)
        self.done(room, ("swap", 0, 3))
        self.assertEqual(stands(room), ((3, 1, 2, 0), None, (1, 0, 0, 1)))
        self.done(room, ("swap", 1, 0))
        self.assertEqual(stands(room), ((1, 3, 2, 0), None, (1, 1, 0, 2)))

    def test_take_and_lay(self):
        room = Room(3)
        self.done(room, ("take", 0))
        self.assertEqual(stands(room), ((None, 1, 2), 0, (1, 0, 0)))
        self.done(room, ("lay", 0))
        self.assertEqual(stands(room), ((0, 1, 2), None, (2, 0, 0)))

    def test_move(self):
        room = Room(3)
        self.done(room, ("take", 1), ("move", 2, 1))
        self.assertEqual(stands(room), ((0, 2, None), 1, (0, 1, 1)))
        self.done(room, ("move", 0, 2), ("lay", 0))
        self.assertEqual(stands(room), ((1, 2, 0), None, (1, 2, 1)))

    def test_moved_counts_things_not_places(self):
        room = Room(3)
        self.done(room, ("swap", 0, 1), ("swap", 1, 2), ("take", 2), ("lay", 2))
        self.assertEqual(stands(room), ((1, 2, 0), None, (4, 1, 1)))

    def test_swap_while_the_hand_has_a_thing(self):
        room = Room(3)
        self.done(room, ("take", 2), ("swap", 0, 1))
        self.assertEqual(stands(room), ((1, 0, None), 2, (1, 1, 1)))

    def test_a_long_ring_with_one_hand(self):
        room = Room(LONGEST)
        self.done(room, ("take", 0))
        for place in range(1, LONGEST):
            self.done(room, ("move", place, place - 1))
        self.done(room, ("lay", LONGEST - 1))
        self.assertEqual(room.row_now(), tuple(range(1, LONGEST)) + (0,))
        self.assertEqual(room.moved_now(), (2,) + (1,) * (LONGEST - 1))
        self.assertIsNone(room.hand_now())

    def test_thing_nought_fills_hand_and_place(self):
        room = Room(2)
        self.done(room, ("take", 0))
        self.refused(room, ("take", 1), "full")
        self.done(room, ("lay", 0))
        self.refused(room, ("move", 1, 0), "full")


class Refused(Asking):

    def test_form_by_kind(self):
        for thing in [
            None, True, False, 0, 1, -1, "", "swap", "take", "take 0", [], (), [[]], ((),), [()],
            ["swap", 0, 1], ["take", 0], ["move", 0, 1], ["lay", 0], [("take", 0)], (("take", 0),), (["take", 0],),
            (0,), (None, 0), (True, 0), (0, "take"), (["take"], 0), (("take",), 0), ("", 0), ("Take", 0), ("take ", 0),
            ("swap",), ("take",), ("move",), ("lay",), ("put",), ("put", 0), ("put", 0, 1), ("t", 0), ("done", 0, 1),
        ]:
            self.refused(Room(3), thing, "form")

    def test_form_by_length(self):
        for thing in [
            ("swap", 0), ("move", 0), ("take", 0, 1), ("lay", 0, 1), ("swap", 0, 1, 2), ("move", 0, 1, 2),
            ("take", 0, None), ("swap", 0, 1, None), ("take", 0, 0), ("swap", (0, 1)), ("take", (0,)), ("take", [0]),
        ]:
            self.refused(Room(3), thing, "form")

    def test_form_by_places(self):
        for wrong in NO_PLACES:
            room = Room(LONGEST)
            self.done(room, ("take", 0))
            for thing in [
                ("take", wrong), ("lay", wrong), ("swap", wrong, 1), ("swap", 1, wrong), ("swap", wrong, wrong),
                ("move", wrong, 0), ("move", 1, wrong), ("move", wrong, wrong),
            ]:
                self.refused(room, thing, "form")

    def test_form_just_beyond_the_row(self):
        for n in range(4):
            for wrong in (-1, n):
                for thing in [("take", wrong), ("lay", wrong), ("swap", 0, wrong), ("swap", wrong, 0),
                              ("move", 0, wrong), ("move", wrong, 0)]:
                    self.refused(Room(n), thing, "form")

    def test_truths_are_no_places(self):
        room = Room(3)
        for thing in [("swap", False, True), ("swap", 0, True), ("swap", True, 0), ("take", True), ("take", False),
                      ("move", True, 2), ("move", 2, True), ("lay", False)]:
            self.refused(room, thing, "form")

    def test_same(self):
        room = Room(3)
        self.refused(room, ("swap", 1, 1), "same")
        self.refused(room, ("move", 1, 1), "same")

    def test_full(self):
        room = Room(3)
        self.refused(room, ("move", 0, 1), "full")
        self.done(room, ("take", 0))
        self.refused(room, ("take", 1), "full")
        self.refused(room, ("lay", 1), "full")
        self.refused(room, ("move", 1, 2), "full")

    def test_empty(self):
        room = Room(3)
        self.done(room, ("take", 0))
        for deed in [("swap", 0, 1), ("swap", 1, 0), ("swap", 0, 2), ("swap", 2, 0)]:
            self.refused(room, deed, "empty")
        self.done(room, ("move", 2, 0))
        for deed in [("swap", 2, 1), ("swap", 1, 2), ("swap", 2, 0), ("swap", 0, 2)]:
            self.refused(room, deed, "empty")

    def test_full_goes_ahead_of_empty(self):
        # Things and places are as many: a place is empty just while the hand has a thing.
        room = Room(2)
        self.refused(room, ("lay", 0), "full")
        self.refused(room, ("lay", 1), "full")
        self.done(room, ("take", 1))
        self.refused(room, ("take", 1), "full")
        self.refused(room, ("move", 1, 0), "full")

    def test_two_due_at_once(self):
        room = Room(3)
        self.done(room, ("take", 0))
        self.refused(room, ("swap", 0, 0), "same")
        self.refused(room, ("move", 0, 0), "same")
        self.refused(room, ("move", 1, 1), "same")
        self.refused(room, ("move", 0, 1), "full")
        self.refused(room, ("take", 0), "full")
        self.refused(room, ("swap", 3, 3), "form")
        self.refused(room, ("move", -1, -1), "form")
        self.refused(room, ("move", 0, 3), "form")
        self.refused(room, ("take", 3), "form")
        self.refused(room, ("swap", True, True), "form")
        self.refused(room, ("swap", None, None), "form")
        self.refused(room, ["swap", 1, 1], "form")

    def test_no_places(self):
        for thing in [("take", 0), ("lay", 0), ("swap", 0, 0), ("move", 0, 0), ("swap", 0, 1), (), None]:
            self.refused(Room(0), thing, "form")

    def test_one_place(self):
        room = Room(1)
        self.refused(room, ("swap", 0, 0), "same")
        self.refused(room, ("move", 0, 0), "same")
        self.refused(room, ("lay", 0), "full")
        self.done(room, ("take", 0))
        self.refused(room, ("take", 0), "full")
        self.done(room, ("lay", 0))
        self.assertEqual(stands(room), ((0,), None, (2,)))

    def test_refused_as_a_turn_error(self):
        with self.assertRaises(TurnError) as caught:
            Room(1).do(None)
        self.assertIs(caught.exception.__class__, BadDeed)

    def test_goes_on_behind_a_refusal(self):
        room = Room(2)
        self.refused(room, ("move", 0, 1), "full")
        self.done(room, ("take", 0))
        self.refused(room, ("take", 1), "full")
        self.done(room, ("move", 1, 0), ("lay", 1))
        self.assertEqual(stands(room), ((1, 0), None, (2, 1)))


class EveryStand(Asking):

    def test_every_deed_in_every_stand(self):
        for n in range(5):
            ahead, seen = [Room(n)], {(tuple(range(n)), None)}
            while ahead:
                room = ahead.pop()
                for deed in deeds_for(n):
                    self.check(room, deed, ahead, seen)

    def check(self, room, deed, ahead, seen):
        row, hand, moved = before = stands(room)
        asked = reckon(row, hand, deed)
        if isinstance(asked, str):
            self.refused(room, deed, asked)
            return
        twin = room.twin()
        self.done(twin, deed)
        counts = tuple(count + asked[2].count(thing) for thing, count in enumerate(moved))
        self.assertEqual(stands(twin), (asked[0], asked[1], counts), (before, deed))
        self.assertEqual(stands(room), before)
        if asked[:2] not in seen:
            seen.add(asked[:2])
            ahead.append(twin)


class Twin(Asking):

    def test_stands_so(self):
        room = Room(4)
        self.done(room, ("swap", 0, 1), ("take", 3), ("move", 2, 3))
        twin = room.twin()
        self.assertIsInstance(twin, Room)
        self.assertIsNot(twin, room)
        self.assertEqual(stands(twin), stands(room))
        self.assertEqual(stands(twin), ((1, 0, None, 2), 3, (1, 1, 1, 1)))

    def test_of_no_places(self):
        self.assertEqual(stands(Room(0).twin()), ((), None, ()))

    def test_goes_its_own_way(self):
        for deeds in itertools.permutations([("swap", 0, 1), ("take", 2), ("swap", 1, 3)]):
            room = Room(4)
            self.done(room, deeds[0])
            twin = room.twin()
            stood = stands(room)
            for deed in deeds[1:]:
                try:
                    twin.do(deed)
                except BadDeed:
                    pass
            self.assertEqual(stands(room), stood)
            gone = stands(twin)
            self.assertNotEqual(gone, stood)
            self.done(room, ("swap", 0, 3))
            self.assertEqual(stands(twin), gone)

    def test_of_a_twin(self):
        room = Room(2)
        room.do(("take", 1))
        first = room.twin()
        second = first.twin()
        first.do(("lay", 1))
        self.assertEqual(stands(second), ((0, None), 1, (0, 1)))
        self.assertEqual(stands(room), ((0, None), 1, (0, 1)))
        self.assertEqual(stands(first), ((0, 1), None, (0, 2)))


class Told(Asking):

    def test_what_was_told_stays(self):
        room = Room(3)
        told = stands(room)
        self.done(room, ("swap", 0, 2), ("take", 1))
        self.assertEqual(told, ((0, 1, 2), None, (0, 0, 0)))

    def test_the_same_is_told_again(self):
        room = Room(3)
        self.done(room, ("take", 1))
        self.assertEqual(stands(room), stands(room))

    def test_what_is_handed_in_stays(self):
        thing = ["swap", [0], (1, [2])]
        self.refused(Room(3), thing, "form")
        self.refused(Room(3), tuple(thing), "form")
        self.assertEqual(thing, ["swap", [0], (1, [2])])


if __name__ == "__main__":
    unittest.main()
