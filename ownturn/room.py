"""A Room: a row of places, one hand, and the deeds by which things go from place to place."""

from ownturn.errors import BadDeed
from ownturn.orders import is_place

PLACES_OF = {"swap": 2, "take": 1, "move": 2, "lay": 1}


def is_deed(thing, n):
    """Whether a thing has the form of a deed, with places of a row of n."""
    if not isinstance(thing, tuple) or len(thing) == 0:
        return False
    word = thing[0]
    if not isinstance(word, str) or PLACES_OF.get(word) != len(thing) - 1:
        return False
    return all([is_place(part, n) for part in thing[1:]])


class Room:
    """The things 0 to n - 1, at first each at its own place, and a hand without a thing."""

    def __init__(self, n):
        self.row = list(range(n))
        self.hand = None
        self.moved = [0] * n

    def do(self, thing):
        """Does a deed, or refuses it and leaves all as it stood."""
        if not is_deed(thing, len(self.row)):
            raise BadDeed("form")
        word = thing[0]
        if word == "swap":
            self.swap(thing[1], thing[2])
        elif word == "take":
            self.take(thing[1])
        elif word == "move":
            self.move(thing[1], thing[2])
        else:
            self.lay(thing[1])

    def swap(self, a, b):
        """Exchanges the things of two places."""
        if a == b:
            raise BadDeed("same")
        one = self.row[a]
        other = self.row[b]
        if one is None or other is None:
            raise BadDeed("empty")
        self.row[a] = other
        self.row[b] = one
        self.moved[one] += 1
        self.moved[other] += 1

    def take(self, a):
        """Brings the thing at a into the hand."""
        if self.hand is not None:
            raise BadDeed("full")
        self.hand = self.lift(a)

    def move(self, a, b):
        """Brings the thing at a to b."""
        if a == b:
            raise BadDeed("same")
        if self.row[b] is not None:
            raise BadDeed("full")
        self.row[b] = self.lift(a)

    def lay(self, b):
        """Brings the thing in the hand to b."""
        if self.row[b] is not None:
            raise BadDeed("full")
        if self.hand is None:
            raise BadDeed("empty")
        self.row[b] = self.hand
        self.moved[self.hand] += 1
        self.hand = None

    def lift(self, a):
        """The thing at a, which is away from there then, and counted as moved."""
        thing = self.row[a]
        if thing is None:
            raise BadDeed("empty")
        self.row[a] = None
        self.moved[thing] += 1
        return thing

    def row_now(self):
        """A tuple with each place's thing, None where it's empty."""
        return tuple(self.row)

    def hand_now(self):
        """The thing in the hand, or None."""
        return self.hand

    def moved_now(self):
        """A tuple with for each thing how often it was moved."""
        return tuple(self.moved)

    def twin(self):
        """A Room of its own that stands as this one does."""
        room = Room(len(self.row))
        room.row = list(self.row)
        room.hand = self.hand
        room.moved = list(self.moved)
        return room
