import inspect
import unittest

from sevenball import errors
from tests.values import NOT_STRINGS, Case

FIELDS = {
    "BadNumber": ("part",),
    "BadPoint": ("part",),
    "BadTurn": ("part",),
    "BadMachine": ("part",),
    "BadPiece": ("part",),
    "BadLot": ("part",),
    "BadPaper": ("part",),
    "BadWord": ("at",),
    "BadLetter": ("value",),
    "Thin": ("word",),
    "TooMany": ("what", "most"),
    "BadText": ("item",),
    "BadName": ("value",),
    "NoName": ("name",),
    "Twice": ("name",),
    "BadLine": ("item",),
    "Nothing": (),
}


class Errors(Case):
    def test_there_are_just_these(self):
        found = [name for name, value in vars(errors).items() if inspect.isclass(value)]
        self.assertEqual(sorted(found), sorted([*FIELDS, "BallError"]))

    def test_bases(self):
        self.assertEqual(errors.BallError.__bases__, (ValueError,))
        for name in FIELDS:
            self.assertEqual(getattr(errors, name).__bases__, (errors.BallError,))

    def test_fields_by_place_and_by_name_are_the_very_values(self):
        for name, fields in FIELDS.items():
            made = getattr(errors, name)
            for value in NOT_STRINGS:
                values = [value, [value], (value, "x")][:len(fields)]
                for error in (made(*values), made(**dict(zip(fields, values)))):
                    self.assertEqual(list(vars(error)), list(fields))
                    for field, kept in zip(fields, values):
                        self.assertIs(getattr(error, field), kept)

    def test_too_many_or_too_few_fields(self):
        for name, fields in FIELDS.items():
            made = getattr(errors, name)
            if fields:
                with self.assertRaises(TypeError):
                    made()
                with self.assertRaises(TypeError):
                    made(*([1] * (len(fields) + 1)))

    def test_they_can_be_raised_and_caught_as_value_errors(self):
        for name, fields in FIELDS.items():
            with self.assertRaises(ValueError):
                raise getattr(errors, name)(*fields)


if __name__ == "__main__":
    unittest.main()
