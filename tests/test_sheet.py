"""Promises [17] and [18], and [2] as far as it speaks of sheet.py."""

import itertools
import unittest

from ownturn.errors import BadRow, TurnError
from ownturn.gathering import gather_order
from ownturn.orders import after, back_of, put, staying
from ownturn.plans import by_rings, fewest_moves
from ownturn.rings import order_by, rings
from ownturn.rolls import roll_order
from ownturn.sheet import run
from ownturn.tables import turn_order
from ownturn.undoing import order_done
from ownturn.weaving import unweave_order, weave_order

from samples import all_apart, small_orders

ABC = "abcdefghijklmnopqrstuvwxyz"


def words_of(n):
    """So many words, all unlike, that don't rise as they stand."""
    return [ABC[(7 * at + 3) % 26] + ABC[at % 26] * (at // 26) for at in range(n)]


def sheet(words, *rows):
    """The text of a sheet."""
    return "\n".join((" ".join(["row"] + list(words)),) + rows)


def moves_of(row, new_row):
    """The moves it takes that a row, of things all unlike, stands as a new one: things that go, and rings."""
    goes = {at: new_row.index(thing) for at, thing in enumerate(row) if new_row[at] != thing}
    many = len(goes)
    while goes:
        many += 1
        at = next(iter(goes))
        while at in goes:
            at = goes.pop(at)
    return many


class Model:
    """A sheet kept as pairs of a word and its first place, with each row as it stood ahead of each deed."""

    def __init__(self, words):
        self.row = [(word, at) for at, word in enumerate(words)]
        self.past = []
        self.moves = 0

    def goes_to(self, row):
        many = moves_of(self.row, row)
        self.row = row
        self.moves += many
        return str(many)

    def behind(self, word, numbers):
        """The row behind a deed, or None where it can't be."""
        row, n = self.row, len(self.row)
        if word == "order" and sorted(numbers) == list(range(n)):
            return [row[numbers.index(at)] for at in range(n)]
        if word == "roll":
            return [row[(at - numbers[0]) % n] for at in range(n)]
        if word == "turn" and n and numbers[0] * numbers[1] == n:
            return [row[r * numbers[1] + c] for c in range(numbers[1]) for r in range(numbers[0])]
        if word == "weave" and n % 2 == 0:
            return [thing for pair in zip(row[n // 2:], row[:n // 2]) for thing in pair]
        if word == "unweave" and n % 2 == 0:
            return row[1::2] + row[::2]
        if word == "gather":
            return sorted(row, key=lambda pair: pair[0])
        if word == "swap" and numbers[0] != numbers[1] and max(numbers) < n:
            row = list(row)
            row[numbers[0]], row[numbers[1]] = row[numbers[1]], row[numbers[0]]
            return row
        return None

    def answer(self, text):
        word, *numbers = text.split(" ")
        numbers = [int(number) for number in numbers]
        first = [pair[1] for pair in self.row]
        if word == "row":
            return " ".join(pair[0] for pair in self.row) or "-"
        if word == "moves":
            return str(self.moves)
        if word == "rings":
            return " / ".join(" ".join(map(str, ring)) for ring in rings(back_of(first))) or "-"
        if word == "place":
            return str(first.index(numbers[0])) if numbers[0] in first else "refused"
        if word == "undo":
            return self.goes_to(self.past.pop()) if self.past else "none"
        row = self.behind(word, numbers)
        if row is None:
            return "refused"
        self.past.append(self.row)
        return self.goes_to(row)


class Asking(unittest.TestCase):

    def answers(self, text, told):
        got = run(text)
        self.assertEqual(got, told, text)
        self.assertIsInstance(got, list)
        self.assertTrue(all(answer.__class__ is str for answer in got))

    def refused(self, text, row):
        with self.assertRaises(BadRow, msg=text) as caught:
            run(text)
        self.assertEqual(caught.exception.row, row, text)
        self.assertIs(caught.exception.row.__class__, int)

    def written(self, text):
        """Nothing in the text is refused with BadRow."""
        run(text)


class Deeds(Asking):

    def test_order(self):
        self.answers("row a b c\norder 1 2 0\nrow", ["4", "c a b"])
        self.answers("row a b c\norder 0 1 2\nrow", ["0", "a b c"])
        self.answers("row a\norder 0\nrow", ["0", "a"])
        self.answers("row a b c d\norder 1 0 3 2\nrow\norder 0 2 1 3\nrow", ["6", "b a d c", "3", "b d a c"])

    def test_order_refused(self):
        for row in (
            "order", "order 0", "order 0 1", "order 0 1 2 3", "order 0 1 1", "order 1 2 3", "order 0 1 3", "order 0 1 9999",
            "order 0 0 0", "order 2 2 1",
        ):
            self.answers("row a b c\n" + row + "\nrow\nmoves\nundo", ["refused", "a b c", "0", "none"])

    def test_roll(self):
        self.answers("row a b c d\nroll 1\nrow", ["5", "d a b c"])
        self.answers("row a b c d\nroll -1\nrow", ["5", "b c d a"])
        self.answers("row a b c d\nroll 2\nrow", ["6", "c d a b"])
        self.answers("row a b c d\nroll 0\nrow\nroll 4\nroll -8\nrow", ["0", "a b c d", "0", "0", "a b c d"])
        self.answers("row a b c\nroll 9999\nroll -9998\nrow", ["0", "4", "c a b"])
        self.answers("row a\nroll 7\nrow", ["0", "a"])

    def test_turn(self):
        self.answers("row a b c d e f\nturn 2 3\nrow", ["5", "a d b e c f"])
        self.answers("row a b c d e f\nturn 3 2\nrow", ["5", "a c e b d f"])
        self.answers("row a b c d e f\nturn 1 6\nturn 6 1\nrow", ["0", "0", "a b c d e f"])
        self.answers("row a b c d\nturn 2 2\nrow", ["3", "a c b d"])
        self.answers("row a\nturn 1 1\nrow", ["0", "a"])

    def test_turn_refused(self):
        for row in ("turn 0 0", "turn 0 6", "turn 6 0", "turn 2 2", "turn 1 5", "turn 7 1", "turn 9999 9999", "turn 4 2"):
            self.answers("row a b c d e f\n" + row + "\nrow\nmoves\nundo", ["refused", "a b c d e f", "0", "none"])

    def test_weave_and_unweave(self):
        self.answers("row a b c d\nweave\nrow", [str(fewest_moves(weave_order(2, 1))), "c a d b"])
        self.answers("row a b c d\nunweave\nrow", [str(fewest_moves(unweave_order(2, 1))), "b d a c"])
        self.answers("row a b\nweave\nrow\nunweave\nrow", ["3", "b a", "3", "a b"])
        self.answers("row a b c d e f\nweave\nrow\nunweave\nrow", ["8", "d a e b f c", "8", "a b c d e f"])

    def test_weave_and_unweave_refused(self):
        for words in ("a", "a b c", "a b c d e"):
            for deed in ("weave", "unweave"):
                self.answers(f"row {words}\n{deed}\nrow\nmoves\nundo", ["refused", words, "0", "none"])

    def test_gather(self):
        self.answers("row c a b\ngather\nrow", ["4", "a b c"])
        self.answers("row b a b a\ngather\nrow\nrings", ["5", "a a b b", "0 2 3 1"])
        self.answers("row a ab b\ngather\nrow", ["0", "a ab b"])
        self.answers("row ab b a aa\ngather\nrow", [str(fewest_moves([2, 3, 0, 1])), "a aa ab b"])
        self.answers("row x x x\ngather\nrow\nrings", ["0", "x x x", "-"])

    def test_gather_by_the_words_as_they_stand(self):
        self.answers("row b a a\nroll 1\ngather\nplace 1\nplace 2\nrow", ["4", "3", "1", "0", "a a b"])

    def test_swap(self):
        self.answers("row a b c\nswap 0 2\nrow", ["3", "c b a"])
        self.answers("row a b c\nswap 2 0\nrow", ["3", "c b a"])
        self.answers("row a b c\nswap 0 1\nswap 1 2\nrow", ["3", "3", "b c a"])

    def test_swap_refused(self):
        for row in ("swap 0 0", "swap 2 2", "swap 0 3", "swap 3 0", "swap 3 3", "swap 3 4", "swap 9999 0", "swap 9999 9999"):
            self.answers("row a b c\n" + row + "\nrow\nmoves\nundo", ["refused", "a b c", "0", "none"])


class Undo(Asking):

    def test_nothing_to_take_back(self):
        self.answers("row a b\nundo", ["none"])
        self.answers("row\nundo\nundo", ["none", "none"])
        self.answers("row a b\nrow\nmoves\nrings\nplace 0\nundo", ["a b", "0", "-", "0", "none"])

    def test_takes_back_the_last_deed(self):
        self.answers("row a b c\nroll 1\nundo\nrow\nundo", ["4", "4", "a b c", "none"])

    def test_undo_behind_undo(self):
        self.answers(
            "row a b c d\nroll 1\nswap 0 1\nundo\nrow\nundo\nrow\nundo\nrow",
            ["5", "3", "3", "d a b c", "5", "a b c d", "none", "a b c d"])

    def test_deeds_behind_undo(self):
        self.answers(
            "row a b c\nswap 0 1\nroll 1\nundo\nswap 1 2\nrow\nundo\nundo\nundo\nrow",
            ["3", "4", "4", "3", "b c a", "3", "3", "none", "a b c"])

    def test_deeds_of_no_moves_are_taken_back_too(self):
        self.answers(
            "row a b c\nswap 0 1\nroll 0\norder 0 1 2\nundo\nrow\nundo\nrow\nundo\nrow\nundo",
            ["3", "0", "0", "0", "b a c", "0", "b a c", "3", "a b c", "none"])

    def test_refused_deeds_are_not(self):
        self.answers("row a b c\nswap 0 1\nswap 0 3\nturn 2 2\nweave\norder 0\nundo\nundo\nrow",
                     ["3", "refused", "refused", "refused", "refused", "3", "none", "a b c"])

    def test_of_no_things(self):
        self.answers("row\nroll 3\norder\nweave\nunweave\ngather\n" + "undo\n" * 6, ["0"] * 10 + ["none"])


class Asks(Asking):

    def test_row(self):
        self.answers("row a b a\nrow", ["a b a"])
        self.answers("row\nrow", ["-"])
        self.answers("row abcdefgh\nrow\nrow", ["abcdefgh", "abcdefgh"])

    def test_moves(self):
        self.answers("row a b c\nmoves\nswap 0 1\nmoves\nroll 1\nmoves\nundo\nmoves\nswap 0 0\nundo\nundo\nmoves",
                     ["0", "3", "3", "4", "7", "4", "11", "refused", "3", "none", "14"])

    def test_rings(self):
        self.answers("row a b c d e\nrings\norder 3 4 2 0 1\nrings\nroll 1\nrings",
                     ["-", "6", "0 3 / 1 4", str(fewest_moves(roll_order(5, 1))), "0 4 2 3 1"])
        self.answers("row a b\nrings\nswap 0 1\nrings\nundo\nrings", ["-", "3", "0 1", "3", "-"])
        self.answers("row\nrings", ["-"])

    def test_rings_of_places_not_of_words(self):
        self.answers("row a a\nswap 0 1\nrow\nrings", ["3", "a a", "0 1"])

    def test_place(self):
        self.answers("row a b c\nplace 0\nplace 2\nroll 1\nplace 0\nplace 1\nplace 2\nplace 3\nplace 9999",
                     ["0", "2", "4", "1", "2", "0", "refused", "refused"])
        self.answers("row\nplace 0", ["refused"])

    def test_place_of_things_as_at_first(self):
        self.answers("row a b c d\nroll 1\nswap 0 1\nplace 0\nplace 3\nrow", ["5", "3", "0", "1", "a d b c"])


class OfNoThings(Asking):

    def test_every_row(self):
        for row, told in [
            ("order", "0"), ("order 0", "refused"), ("roll 0", "0"), ("roll 5", "0"), ("roll -9999", "0"),
            ("turn 0 0", "refused"), ("turn 1 0", "refused"), ("turn 0 3", "refused"), ("turn 1 1", "refused"), ("weave", "0"),
            ("unweave", "0"), ("gather", "0"), ("swap 0 0", "refused"), ("swap 0 1", "refused"), ("undo", "none"),
            ("row", "-"), ("moves", "0"), ("rings", "-"), ("place 0", "refused"),
        ]:
            self.answers("row\n" + row, [told])


class Written(Asking):

    def test_no_rows_but_the_first(self):
        for text in ("row", "row a", "\nrow", "row\n", "\n\nrow a b\n\n\n"):
            self.answers(text, [])

    def test_empty_rows_are_passed_over(self):
        self.answers("\n\nrow a b\n\nswap 0 1\n\n\nrow\n", ["3", "b a"])

    def test_the_first_row(self):
        for text in ("row a", "row z", "row abcdefgh", "row row", "row a a a", "row undo moves", "row " + " ".join(["x"] * 60)):
            self.written(text)
        for text in (
            "row A", "row a1", "row 1", "row a-b", "row abcdefghi", "row -", "row a.", "Row a", "ro a", "rows a", "a", "a b",
            "swap 0 1", "undo", "moves", "rings", "place 0", "order", "order 0", "roll 1", "gather", "weave", "row " + " ".join(["x"] * 61),
            "row a_b", "row a,b", "rowa", "row~", "~",
        ):
            self.refused(text, 0)
            self.refused(text + "\nrow a", 0)
            self.refused("\n\n" + text, 2)

    def test_there_alone(self):
        self.refused("row a b\nrow a b", 1)
        self.refused("row a b\nrow c", 1)
        self.refused("row\nrow a", 1)
        self.refused("row a\n\nrow\nrow 0", 3)

    def test_words_by_one_blank(self):
        for text in ("row  a", " row a", "row a ", "row ", "row a  b", " ", "  ", " row"):
            self.refused(text, 0)
        for row in (
            "swap  0 1", "swap 0  1", " swap 0 1", "swap 0 1 ", "row ", " row", "undo ", " undo", "moves ", " ", "  ", "order ",
            "order  0 1", "order 0 1 ", "gather ", "weave ", "place 0 ", "place  0", "roll  1", "roll 1 ", "roll ",
        ):
            self.refused("row a b\nrow\n" + row, 2)

    def test_things_beside_a_deed_or_an_ask(self):
        for row in (
            "undo 1", "undo undo", "weave 1", "unweave 0", "gather a", "row a", "row 0", "moves 0", "rings 1", "place",
            "place 0 1", "place a", "swap", "swap 0", "swap 0 1 2", "swap a b", "turn", "turn 1", "turn 1 2 3", "turn a b", "roll",
            "roll 1 2", "roll a", "order a", "order 0 a", "order -", "a", "0", "-", "undone", "Undo", "SWAP 0 1",
            "orders 0 1", "rowrow", "1 swap 0", "/", "~", "row-",
        ):
            self.refused("row a b\nrow\n\n" + row, 3)

    def test_numbers(self):
        for number in ("0", "1", "9", "10", "100", "999", "1000", "9999"):
            for row in ("order N", "order 0 N", "roll N", "turn N 1", "turn 1 N", "swap N 0", "swap 0 N", "place N"):
                self.written("row a b\n" + row.replace("N", number))
        for number in (
            "00", "01", "007", "0000", "00001", "10000", "12345", "99999", "123456789", "-", "--1", "1-", "+1", "1.0", "1e3", "0x1",
            "1_0", "a", "", "-0", "-00", "-01", "-10000", "-12345", "- 1", "1,",
        ):
            for row in ("order N", "order 0 N", "roll N", "turn N 1", "turn 1 N", "swap N 0", "swap 0 N", "place N"):
                self.refused("row a b\n" + row.replace("N", number), 1)

    def test_every_sign(self):
        for sign in [chr(code) for code in range(33, 127) if chr(code) != "%"]:
            if sign in ABC:
                self.written("row " + sign)
                self.written("row a" + sign)
            else:
                self.refused("row " + sign, 0)
                self.refused("row a" + sign, 0)
            if sign in "0123456789":
                self.written("row a\nplace " + sign)
                self.written("row a\nroll -1" + sign)
            else:
                self.refused("row a\nplace " + sign, 1)
                self.refused("row a\nroll 1" + sign, 1)
                self.refused("row a\n" + sign, 1)

    def test_a_minus_is_rolls_alone(self):
        for number in ("-1", "-9", "-10", "-999", "-9999"):
            self.written("row a b\nroll " + number)
            for row in ("order N", "order 0 N", "turn N 1", "turn 1 N", "swap N 0", "swap 0 N", "place N"):
                self.refused("row a b\n" + row.replace("N", number), 1)

    def test_how_long_rows_are(self):
        longest = "row " + " ".join(["abcdefgh"] * 32) + " abcdefg"
        self.assertEqual(len(longest + "h"), 300)
        self.written(longest)
        self.written(longest + "h")
        self.refused(longest + " a", 0)
        longer = "row " + " ".join(["abcdefgh"] * 32) + " abcdef ab"
        self.assertEqual(len(longer), 301)
        self.refused(longer, 0)
        numbers = "order" + " 1000" * 59
        self.assertEqual(len(numbers), 300)
        self.answers("row a\n" + numbers, ["refused"])
        self.assertEqual(len("order" + " 1000" * 58 + " 10 10"), 301)
        self.refused("row a\nrow\n" + "order" + " 1000" * 58 + " 10 10", 2)
        self.refused("row " + "a " * 400, 0)

    def test_how_many_rows(self):
        self.answers("row a" + "\nrow" * 99, ["a"] * 99)
        self.refused("row a" + "\nrow" * 100, 100)
        self.refused("row a" + "\nrow" * 200, 100)
        self.answers("row a" + "\n" * 99, [])
        self.refused("row a" + "\n" * 100, 100)
        self.refused("row a" + "\nrow" * 99 + "\n", 100)
        self.answers("\n" * 99 + "row a", [])
        self.refused("\n" * 100 + "row a", 100)

    def test_no_row_but_empty_ones(self):
        self.refused("", 1)
        for many in (1, 2, 50, 98, 99):
            self.refused("\n" * many, many + 1)
        self.refused("\n" * 100, 100)
        self.refused("\n" * 101, 100)
        self.refused("\n" * 250, 100)

    def test_the_first_of_several(self):
        self.refused("row a\nwhat\nthat", 1)
        self.refused("row a\nrow\nswap 00 1\n" + "x" * 400, 2)
        self.refused("row A\nwhat", 0)
        self.refused("row a\n" + "x" * 301 + "\nwhat", 1)
        self.refused("row a\nwhat" + "\nrow" * 150, 1)
        self.refused("row a" + "\nrow" * 99 + "\nwhat", 100)

    def test_ahead_of_all_answers(self):
        self.refused("row a b\nswap 0 5\nundo\nplace 7\nwhat", 4)

    def test_refused_as_a_turn_error(self):
        with self.assertRaises(TurnError) as caught:
            run("")
        self.assertIs(caught.exception.__class__, BadRow)
        self.assertIn(TurnError, BadRow.__bases__)


class AsTheOtherModules(Asking):

    def deed(self, n, row, order):
        """A deed of a sheet does this order, and answers its moves."""
        words = words_of(n)
        now = " ".join(put(words, order)) or "-"
        ringed = " / ".join(" ".join(str(place) for place in ring) for ring in rings(order)) or "-"
        many = str(fewest_moves(order))
        places = [f"place {place}" for place in range(min(n, 20))]
        self.answers(
            sheet(words, row, "row", "rings", "moves", *places, "undo", "row", "moves"),
            [many, now, ringed, many] + [str(place) for place in order[:20]]
            + [many, " ".join(words) or "-", str(2 * fewest_moves(order))])

    def test_order(self):
        for order in small_orders(4) + [list(range(60))[::-1], roll_order(59, 7)]:
            self.deed(len(order), " ".join(["order"] + [str(place) for place in order]), order)

    def test_roll(self):
        for n in (0, 1, 2, 5, 12, 60):
            for k in (0, 1, -1, 2, 3, -4, 59, 60, 61, 1234, 9999, -9999):
                self.deed(n, f"roll {k}", roll_order(n, k))

    def test_turn(self):
        for rows, columns in list(itertools.product(range(1, 6), repeat=2)) + [(6, 10), (10, 6), (1, 60), (60, 1), (3, 20)]:
            self.deed(rows * columns, f"turn {rows} {columns}", turn_order(rows, columns))

    def test_weave_and_unweave(self):
        for many in list(range(10)) + [29, 30]:
            self.deed(2 * many, "weave", weave_order(many, 1))
            self.deed(2 * many, "unweave", unweave_order(many, 1))

    def test_gather(self):
        for n in (0, 1, 2, 3, 10, 26, 27, 59, 60):
            self.deed(n, "gather", gather_order(words_of(n)))

    def test_swap(self):
        for n in (2, 3, 60):
            for one, other in ((0, 1), (1, 0), (0, n - 1), (n - 1, n - 2)):
                self.deed(n, f"swap {one} {other}", order_by(n, [[one, other]]))

    def test_one_after_the_other(self):
        n, words = 12, words_of(12)
        deeds = [
            ("roll 5", roll_order(n, 5)), ("turn 3 4", turn_order(3, 4)), ("weave", weave_order(6, 1)),
            ("swap 2 9", order_by(n, [[2, 9]])), ("unweave", unweave_order(6, 1)), ("turn 6 2", turn_order(6, 2)),
            ("order " + " ".join(map(str, range(11, -1, -1))), list(range(n))[::-1]), ("roll -3", roll_order(n, -3)),
        ]
        order, rows, told, total = staying(n), [], [], 0
        for row, done in deeds:
            order, total = after(order, done), total + fewest_moves(done)
            rows += [row, "row", "rings", "moves"]
            told += [str(fewest_moves(done)), " ".join(put(words, order))]
            told += [" / ".join(" ".join(map(str, ring)) for ring in rings(order)), str(total)]
        self.answers(sheet(words, *rows), told)

    def test_moves_are_those_of_a_plan_that_does_it(self):
        for n, row, order in [(12, "turn 3 4", turn_order(3, 4)), (20, "weave", weave_order(10, 1)), (9, "roll 6", roll_order(9, 6))]:
            plan, words = by_rings(order), words_of(n)
            self.answers(sheet(words, row, "row"), [str(len(plan)), " ".join(put(words, order_done(n, plan)))])


class AsTheModel(Asking):

    def rows_by_number(self, number, n):
        """A row of a sheet, whichever the number tells."""
        kinds = [
            f"roll {number % 41 - 20 or 1}", "weave", "unweave", "gather", f"swap {number % (n + 1)} {number // 7 % (n + 1)}",
            "undo", "undo", "undo", "row", "moves", "rings", f"place {number % (n + 2)}",
            f"turn {number % 6} {n // (number % 6 or 1)}", f"turn {number % 4} {number // 5 % 5}",
            " ".join(["order"] + [str((place + number) % n if n else 0) for place in range(n)][::-1]),
            " ".join(["order"] + [str(place) for place in range(n + number % 2)]), "row", "rings",
        ]
        return kinds[number // 1000 % len(kinds)]

    def test_many_sheets(self):
        number = 12345
        for n in list(range(13)) + [20, 24, 59, 60]:
            for turn in range(12):
                alike = 1 + turn % 5
                words = [ABC[(at * at + turn) % (3 * alike)] for at in range(n)]
                rows = []
                for row in range(99):
                    number = (number * 1103515245 + 12345) % 2 ** 31
                    rows.append(self.rows_by_number(number, n))
                model = Model(words)
                self.answers(sheet(words, *rows), [model.answer(row) for row in rows])

    def test_undone_step_by_step_all_stands_as_it_stood(self):
        words = words_of(12)
        deeds = ["roll 5", "turn 3 4", "weave", "swap 0 11", "gather", "roll 0", "unweave", "turn 12 1", "swap 3 4"]
        told = run(sheet(words, *deeds, *["undo"] * len(deeds), "row", "rings", "undo"))
        self.assertEqual(told[:len(deeds)], told[len(deeds):2 * len(deeds)][::-1])
        self.assertEqual(told[-3:], [" ".join(words), "-", "none"])


class Told(Asking):

    def test_is_the_askers_own(self):
        for text in ("row a b", "row a b\nswap 0 1\nrow"):
            one, other = run(text=text), run(text=text)
            before = list(other)
            self.assertTrue(all_apart(one, other))
            one.append("x")
            one.reverse()
            self.assertEqual(other, before)
            self.assertEqual(run(text), before)

    def test_sheets_know_nothing_of_one_another(self):
        run("row a b c\nroll 1\nroll 1")
        self.answers("row a b c\nundo\nmoves\nrow", ["none", "0", "a b c"])


if __name__ == "__main__":
    unittest.main()
