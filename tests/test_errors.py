"""[2] and the interface of packedbases/errors.py."""

import unittest

from packedbases import errors
from samples import odd_values

FIELDS = {
    "BadArgument": "value", "BadRule": "part", "BadKind": "value", "BadMeasure": "value", "BadThing": "value",
    "BadWord": "value", "BadMarks": "value", "BadBase": "value", "BadPacker": "value", "BadDeed": "value",
    "BadNumber": "value", "BadWalk": "value", "BadPaper": "value", "BadText": "at", "BadChange": "value",
    "BadWish": "value", "BadCommand": "line", "Ringed": "things", "Lost": "word", "TooMany": "number",
    "Leaned": "word", "BadEntry": "value", "NothingLeft": None,
}


class ErrorsTest(unittest.TestCase):
    def test_all_errors_stand_directly_under_pack_error(self):
        self.assertEqual(len(FIELDS), 23)
        self.assertEqual(errors.PackError.__bases__, (Exception,))
        for name in FIELDS:
            self.assertEqual(getattr(errors, name).__bases__, (errors.PackError,), name)
            self.assertEqual(getattr(errors, name).__module__, "packedbases.errors")

    def test_there_are_no_other_errors(self):
        listed = {name for name in vars(errors) if isinstance(vars(errors)[name], type)}
        self.assertEqual(listed, set(FIELDS) | {"PackError"})

    def test_the_field_is_kept_as_it_is_by_position_and_by_name(self):
        for name, field in FIELDS.items():
            for value in odd_values() if field else []:
                self.assertIs(getattr(getattr(errors, name)(value), field), value)
                self.assertIs(getattr(getattr(errors, name)(**{field: value}), field), value)

    def test_a_field_is_needed_and_no_more_than_one(self):
        for name, field in FIELDS.items():
            if field:
                with self.assertRaises(TypeError):
                    getattr(errors, name)()
                with self.assertRaises(TypeError):
                    getattr(errors, name)(1, 2)

    def test_nothing_left_is_made_of_nothing(self):
        with self.assertRaises(errors.PackError):
            raise errors.NothingLeft()

    def test_each_is_raised_and_caught_by_its_name_and_as_pack_error(self):
        for name, field in FIELDS.items():
            kind = getattr(errors, name)
            for caught in (kind, errors.PackError):
                with self.assertRaises(caught):
                    raise kind([1]) if field else kind()


if __name__ == "__main__":
    unittest.main()
