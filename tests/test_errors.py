"""The errors: what each is beneath, and its field."""

import unittest

from fitfloors import errors
from fitfloors.errors import (
    BadCell,
    BadPiece,
    BadPlacement,
    BadPuzzle,
    BadText,
    FloorError,
    NothingBack,
    TooMany,
)

WITHOUT_FIELD = [BadPiece, BadPlacement, BadCell, NothingBack]
WITH_FIELD = [(BadPuzzle, "word", "floor"), (BadText, "line", 0), (BadText, "line", 17), (TooMany, "most", 2000)]


class ErrorsTest(unittest.TestCase):
    def test_the_base_is_directly_beneath_value_error(self):
        self.assertEqual(FloorError.__bases__, (ValueError,))

    def test_each_error_is_directly_beneath_the_base(self):
        for error in WITHOUT_FIELD + [row[0] for row in WITH_FIELD]:
            self.assertEqual(error.__bases__, (FloorError,), error)

    def test_there_are_no_others(self):
        found = [name for name, value in vars(errors).items() if isinstance(value, type)]
        names = ["BadCell", "BadPiece", "BadPlacement", "BadPuzzle", "BadText", "FloorError", "NothingBack", "TooMany"]
        self.assertEqual(sorted(found), names)

    def test_errors_without_a_field_take_nothing(self):
        for error in WITHOUT_FIELD:
            with self.assertRaises(FloorError) as caught:
                raise error()
            self.assertIs(type(caught.exception), error)
            self.assertEqual(caught.exception.args, ())
            self.assertEqual(vars(caught.exception), {}, error)

    def test_errors_with_a_field_take_it_as_their_one_argument(self):
        for error, field, value in WITH_FIELD:
            with self.assertRaises(FloorError) as caught:
                raise error(value)
            self.assertIs(type(caught.exception), error)
            self.assertEqual(vars(caught.exception), {field: value})
            self.assertEqual(caught.exception.args, (value,))
            for wrong in [(), (value, value)]:
                with self.assertRaises(TypeError):
                    error(*wrong)

    def test_none_is_caught_as_another(self):
        for error in WITHOUT_FIELD + [row[0] for row in WITH_FIELD]:
            for other in WITHOUT_FIELD + [row[0] for row in WITH_FIELD]:
                self.assertEqual(issubclass(error, other), error is other)


if __name__ == "__main__":
    unittest.main()
