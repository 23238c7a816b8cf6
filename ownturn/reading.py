"""Sheets as texts: which rows are so written, and their words."""

from ownturn.errors import BadRow

MOST_ROWS = 100
MOST_SIGNS = 300
MOST_THINGS = 60
MOST_LETTERS = 8
MOST_FIGURES = 4

LETTERS = "abcdefghijklmnopqrstuvwxyz"
FIGURES = "0123456789"

# How many numbers stand behind each word that begins a row; behind order there may be any number of them.
NUMBERS_BEHIND = {
    "roll": 1, "turn": 2, "weave": 0, "unweave": 0, "gather": 0, "swap": 2, "undo": 0,
    "row": 0, "moves": 0, "rings": 0, "place": 1,
}


def is_thing(word):
    """Whether a word is one of a sheet's things."""
    return 1 <= len(word) <= MOST_LETTERS and all([sign in LETTERS for sign in word])


def is_number(word):
    """Whether a word is a number in plain figures."""
    if not 1 <= len(word) <= MOST_FIGURES or not all([sign in FIGURES for sign in word]):
        return False
    return word == "0" or word[0] != "0"


def is_roll(word):
    """Whether a word is a number in plain figures, maybe with a minus ahead."""
    if word.startswith("-"):
        return word != "-0" and is_number(word[1:])
    return is_number(word)


def is_first_row(words):
    """Whether these are the words of a sheet's first row."""
    things = words[1:]
    return words[0] == "row" and len(things) <= MOST_THINGS and all([is_thing(word) for word in things])


def is_later_row(words):
    """Whether these are the words of a deed or an ask."""
    word = words[0]
    numbers = words[1:]
    if word != "order" and NUMBERS_BEHIND.get(word) != len(numbers):
        return False
    if word == "roll":
        return is_roll(numbers[0])
    return all([is_number(number) for number in numbers])


def rows_read(text):
    """The list of the words of each row that isn't empty, or the refusal of the first one that isn't so written."""
    rows = text.split("\n")
    read = []
    for at, row in enumerate(rows):
        if at >= MOST_ROWS or len(row) > MOST_SIGNS:
            raise BadRow(at)
        if row != "":
            words = row.split(" ")
            written = is_later_row(words) if len(read) > 0 else is_first_row(words)
            if not written:
                raise BadRow(at)
            read.append(words)
    if len(read) == 0:
        raise BadRow(len(rows))
    return read
