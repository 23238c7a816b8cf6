"""Sheets: a row of words, deeds that rearrange them, and asks."""

from ownturn.gathering import gather_order
from ownturn.orders import after, back_of, is_order, put, staying
from ownturn.plans import fewest_moves
from ownturn.reading import rows_read
from ownturn.rings import order_by, rings
from ownturn.rolls import roll_order
from ownturn.tables import turn_order
from ownturn.weaving import unweave_order, weave_order


class Sheet:
    """The words of the first row, the order from there to now, and the deeds that can be taken back."""

    def __init__(self, words):
        self.words = words
        self.order = staying(len(words))
        self.deeds = []
        self.total = 0

    def go_by(self, order):
        """Brings the words on by an order, and tells the moves that it takes."""
        many = fewest_moves(order)
        self.order = after(self.order, order)
        self.total += many
        return str(many)

    def words_now(self):
        """The words as they stand now."""
        return put(self.words, self.order)


# Each deed tells the order that it does, or None where it can't be.

def order_written(sheet, numbers):
    """The order that is written out."""
    if len(numbers) != len(sheet.words) or not is_order(numbers):
        return None
    return numbers


def order_rolled(sheet, numbers):
    """The order of a roll."""
    return roll_order(len(sheet.words), numbers[0])


def order_turned(sheet, numbers):
    """The order of a table that is turned."""
    rows, columns = numbers
    if rows == 0 or columns == 0 or rows * columns != len(sheet.words):
        return None
    return turn_order(rows, columns)


def order_woven(sheet, numbers):
    """The order of two halves that are woven."""
    if len(sheet.words) % 2 == 1:
        return None
    return weave_order(len(sheet.words) // 2, 1)


def order_unwoven(sheet, numbers):
    """The order that puts back a weaving."""
    if len(sheet.words) % 2 == 1:
        return None
    return unweave_order(len(sheet.words) // 2, 1)


def order_gathered(sheet, numbers):
    """The order by which the words rise, like ones as they stood."""
    return gather_order(sheet.words_now())


def order_swapped(sheet, numbers):
    """The order of two places that are exchanged."""
    one, other = numbers
    if one == other or max(one, other) >= len(sheet.words):
        return None
    return order_by(len(sheet.words), [[one, other]])


def undo(sheet, numbers):
    """Takes back the last deed that was done and isn't yet taken back."""
    if len(sheet.deeds) == 0:
        return "none"
    return sheet.go_by(back_of(sheet.deeds.pop()))


def or_dash(text):
    """The text, or a dash where there is nothing to tell."""
    return text if text != "" else "-"


def tell_row(sheet, numbers):
    """The words as they stand."""
    return or_dash(" ".join(sheet.words_now()))


def tell_moves(sheet, numbers):
    """All moves together."""
    return str(sheet.total)


def tell_rings(sheet, numbers):
    """The rings of the order from the first row to now."""
    return or_dash(" / ".join([" ".join([str(place) for place in ring]) for ring in rings(sheet.order)]))


def tell_place(sheet, numbers):
    """Where the thing of a place at first stands now."""
    if numbers[0] >= len(sheet.words):
        return "refused"
    return str(sheet.order[numbers[0]])


DEEDS = {
    "order": order_written, "roll": order_rolled, "turn": order_turned, "weave": order_woven,
    "unweave": order_unwoven, "gather": order_gathered, "swap": order_swapped,
}

OTHERS = {"undo": undo, "row": tell_row, "moves": tell_moves, "rings": tell_rings, "place": tell_place}


def answer(sheet, words):
    """The answer to a row behind the first one."""
    numbers = [int(word) for word in words[1:]]
    if words[0] in OTHERS:
        other = OTHERS[words[0]]
        return other(sheet, numbers)
    deed = DEEDS[words[0]]
    order = deed(sheet, numbers)
    if order is None:
        return "refused"
    sheet.deeds.append(order)
    return sheet.go_by(order)


def run(text):
    """The list of the answers of a sheet, a text for each row behind the first one that isn't empty."""
    rows = rows_read(text)
    sheet = Sheet(rows[0][1:])
    return [answer(sheet, words) for words in rows[1:]]
