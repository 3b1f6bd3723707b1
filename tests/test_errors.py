import unittest

from hushrules.errors import (
    HushError, NoBeat, NoBook, NoOff, NoOrder, Nothing, NoPlace, NoRule, NoSaying, NoSeen, NoState, NoText,
    NoWheel, NoWish, Unlike,
)

STRAIGHT = [NoBook, NoState, NoOrder, NoOff, NoWish, NoSeen, NoText, NoSaying, Unlike]
OTHERS = {NoRule: LookupError, NoWheel: LookupError, NoBeat: OverflowError, NoPlace: IndexError, Nothing: RuntimeError}
FIELDS = {NoBook: "at", NoSeen: "at", NoText: "at", NoRule: "rule", NoWheel: "wheel", NoBeat: "beats", NoPlace: "place"}


class Classes(unittest.TestCase):
    def test_the_common_one_is_under_value_error(self):
        self.assertEqual(HushError.__bases__, (ValueError,))

    def test_straight_under_it(self):
        for error in STRAIGHT:
            self.assertEqual(error.__bases__, (HushError,), error)

    def test_under_pythons_own(self):
        for error, base in OTHERS.items():
            self.assertTrue(issubclass(error, base), error)
        self.assertFalse(issubclass(NoRule, IndexError))
        self.assertFalse(issubclass(NoWheel, IndexError))

    def test_none_is_under_another_but_as_told(self):
        every = [HushError, *STRAIGHT, *OTHERS]
        for one in every:
            for other in every:
                told = one == other or (other == HushError and one in STRAIGHT)
                self.assertEqual(issubclass(one, other), told, (one, other))

    def test_all_are_defined_in_the_module(self):
        for error in [HushError, *STRAIGHT, *OTHERS]:
            self.assertEqual(error.__module__, "hushrules.errors")


class Fields(unittest.TestCase):
    def test_made_of_the_field(self):
        for error, name in FIELDS.items():
            for thing in (-1, 0, 3, None, True, "x", 10 ** 79):
                self.assertIs(getattr(error(thing), name), thing)
                self.assertIs(getattr(error(**{name: thing}), name), thing)

    def test_a_field_is_what_was_handed_in(self):
        for error in (NoRule, NoWheel, NoBeat, NoPlace):
            thing = [1, [2]]
            self.assertIs(getattr(error(thing), FIELDS[error]), thing)

    def test_made_of_nothing_or_of_a_text(self):
        for error in [HushError, *STRAIGHT, *OTHERS]:
            if error not in FIELDS:
                self.assertIsInstance(error(), error)
                self.assertIsInstance(error("why"), error)


if __name__ == "__main__":
    unittest.main()
