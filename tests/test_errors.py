"""The errors: which stands under which, and how they are made."""

import unittest

from wordrooms import errors

WITH_PLACE = ("BadList", "BadScript", "BadPage")
UNDER_ROOM_ERROR = WITH_PLACE + ("BadText", "BadCount", "BadWay")
UNDER_MISSING = ("NoName", "NoCommand", "Nothing")


class ErrorsTest(unittest.TestCase):
    def test_the_two_families_stand_straight_under_python_s_own(self):
        self.assertEqual(errors.RoomError.__bases__, (ValueError,))
        self.assertEqual(errors.Missing.__bases__, (LookupError,))

    def test_each_refusal_stands_straight_under_room_error(self):
        for word in UNDER_ROOM_ERROR:
            self.assertEqual(getattr(errors, word).__bases__, (errors.RoomError,), word)

    def test_each_missing_one_stands_straight_under_missing(self):
        for word in UNDER_MISSING:
            self.assertEqual(getattr(errors, word).__bases__, (errors.Missing,), word)

    def test_none_stands_under_another_one(self):
        words = UNDER_ROOM_ERROR + UNDER_MISSING
        for word in words:
            for other in words:
                below = issubclass(getattr(errors, word), getattr(errors, other))
                self.assertEqual(below, word == other, (word, other))

    def test_the_families_have_nothing_to_do_with_one_another(self):
        for word in UNDER_ROOM_ERROR:
            self.assertFalse(issubclass(getattr(errors, word), LookupError), word)
        for word in UNDER_MISSING:
            self.assertFalse(issubclass(getattr(errors, word), ValueError), word)

    def test_all_are_defined_in_their_file(self):
        for word in UNDER_ROOM_ERROR + UNDER_MISSING + ("RoomError", "Missing"):
            self.assertEqual(getattr(errors, word).__module__, "wordrooms.errors", word)

    def test_place_by_place_and_by_name(self):
        for word in WITH_PLACE:
            bad = getattr(errors, word)
            self.assertEqual(bad(7).place, 7, word)
            self.assertEqual(bad(place=0).place, 0, word)

    def test_place_has_to_be_given(self):
        for word in WITH_PLACE:
            with self.assertRaises(TypeError):
                getattr(errors, word)()

    def test_each_object_has_its_own_place(self):
        first, second = errors.BadList(1), errors.BadList(2)
        self.assertEqual((first.place, second.place), (1, 2))

    def test_they_are_raised_and_caught_by_their_family(self):
        for word in WITH_PLACE:
            with self.assertRaises(errors.RoomError) as caught:
                raise getattr(errors, word)(3)
            self.assertEqual(caught.exception.place, 3)
        for word in UNDER_MISSING:
            with self.assertRaises(errors.Missing):
                raise getattr(errors, word)("gone")


if __name__ == "__main__":
    unittest.main()
