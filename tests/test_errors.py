"""Point 5."""

import unittest

from seamlayers import errors
from seamlayers.errors import SeamError

from tests.support import any_values

WITH_VALUE = [
    "InvalidKind", "InvalidOrder", "InvalidNumber", "InvalidRow", "InvalidList", "InvalidStanding", "InvalidDeed",
    "InvalidWay", "InvalidLines", "InvalidFlag", "InvalidBook", "Unlike", "TooMany",
]
WITHOUT = ["NothingToUndo", "NothingToRedo"]


class Errors(unittest.TestCase):
    def test_seam_error_is_a_value_error(self):
        self.assertEqual(SeamError.__bases__, (ValueError,))
        self.assertFalse(hasattr(SeamError(), "value"))

    def test_all_stand_directly_below(self):
        for name in WITH_VALUE + WITHOUT:
            self.assertEqual(getattr(errors, name).__bases__, (SeamError,), name)

    def test_value_is_the_argument_itself(self):
        for name in WITH_VALUE:
            error = getattr(errors, name)
            for value in any_values():
                self.assertIs(error(value).value, value)
                self.assertIs(error(value=value).value, value)

    def test_value_may_be_left_out(self):
        for name in WITH_VALUE:
            self.assertIsNone(getattr(errors, name)().value, name)

    def test_just_one_argument(self):
        for name in WITH_VALUE:
            with self.assertRaises(TypeError):
                getattr(errors, name)(1, 2)

    def test_errors_without_a_field(self):
        for name in WITHOUT:
            error = getattr(errors, name)()
            self.assertFalse(hasattr(error, "value"), name)
            self.assertEqual(vars(error), {})

    def test_raised_and_caught_under_their_names(self):
        for name in WITH_VALUE + WITHOUT:
            error = getattr(errors, name)
            with self.assertRaises(SeamError) as caught:
                raise error()
            self.assertIs(type(caught.exception), error)


if __name__ == "__main__":
    unittest.main()
