"""The classes of refusals, and their fields."""

import unittest

from ownturn import errors
from ownturn.errors import BadDeed, BadPlan, BadRing, BadRow, NoMatch, NotDone, TurnError

REFUSALS = [NoMatch, BadRing, BadDeed, BadPlan, NotDone, BadRow]


class Classes(unittest.TestCase):

    def test_turn_error_stands_straight_under_value_error(self):
        self.assertEqual(TurnError.__bases__, (ValueError,))

    def test_each_refusal_stands_straight_under_turn_error(self):
        for refusal in REFUSALS:
            self.assertEqual(refusal.__bases__, (TurnError,))

    def test_each_refusal_is_a_class_of_its_own(self):
        for one in REFUSALS:
            for other in REFUSALS:
                self.assertEqual(issubclass(one, other), one is other)

    def test_classes_bear_their_told_names(self):
        for refusal in REFUSALS + [TurnError]:
            self.assertIs(getattr(errors, refusal.__name__), refusal)


class Made(unittest.TestCase):

    def test_with_words(self):
        for refusal in (TurnError, NoMatch, BadRing):
            with self.assertRaises(TurnError) as caught:
                raise refusal("some words")
            self.assertIs(caught.exception.__class__, refusal)

    def test_with_one_field_by_place_and_by_name(self):
        for refusal, field, value in [
            (BadDeed, "word", "form"), (BadDeed, "word", "empty"),
            (NotDone, "hand", 0), (NotDone, "hand", 399),
            (BadRow, "row", 0), (BadRow, "row", 100),
        ]:
            for made in (refusal(value), refusal(**{field: value})):
                self.assertEqual(getattr(made, field), value)
                self.assertIsInstance(made, ValueError)

    def test_bad_plan_has_place_then_word(self):
        for made in (
            BadPlan(3, "same"), BadPlan(3, word="same"), BadPlan(place=3, word="same"),
            BadPlan(word="same", place=3),
        ):
            self.assertEqual((made.place, made.word), (3, "same"))
            self.assertIsInstance(made, ValueError)

    def test_fields_are_each_objects_own(self):
        one, other = BadDeed("full"), BadDeed("empty")
        self.assertEqual((one.word, other.word), ("full", "empty"))
        one, other = BadPlan(0, "form"), BadPlan(7, "same")
        self.assertEqual((one.place, one.word, other.place, other.word), (0, "form", 7, "same"))

    def test_fields_stand_when_raised(self):
        with self.assertRaises(BadDeed) as caught:
            raise BadDeed("full")
        self.assertEqual(caught.exception.word, "full")


if __name__ == "__main__":
    unittest.main()
