"""The refusals, each of its own class straight under TurnError."""


class TurnError(ValueError):
    """What every refusal stands under."""


class NoMatch(TurnError):
    """Two lists that are to be of one length are not."""


class BadRing(TurnError):
    """Rings that no order of so many places has."""


class BadDeed(TurnError):
    """A deed that can't be done, and by which word."""

    def __init__(self, word):
        self.word = word


class BadPlan(TurnError):
    """A plan that can't be done: at which deed, and by which word."""

    def __init__(self, place, word):
        self.place = place
        self.word = word


class NotDone(TurnError):
    """A plan behind which a thing is still in the hand."""

    def __init__(self, hand):
        self.hand = hand


class BadRow(TurnError):
    """A row of a sheet that isn't so written."""

    def __init__(self, row):
        self.row = row
