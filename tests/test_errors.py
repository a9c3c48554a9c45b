"""[4]: the errors."""

import unittest

from samples import ANY_VALUES
from stagesfull import errors

ONE_NAME = {
    "InvalidNumber": "number",
    "InvalidCut": "cut",
    "InvalidRows": "rows",
    "NoMachine": "machine",
    "NoLetter": "number",
    "NotDone": "machine",
    "TooMany": "many",
}


class Errors(unittest.TestCase):
    def test_what_they_stand_under(self):
        self.assertEqual(errors.StageError.__bases__, (ValueError,))
        for name in [*ONE_NAME, "InvalidText"]:
            self.assertEqual(getattr(errors, name).__bases__, (errors.StageError,), name)

    def test_nothing_else_stands_there(self):
        found = [name for name, value in vars(errors).items() if isinstance(value, type)]
        self.assertEqual(sorted(found), sorted([*ONE_NAME, "InvalidText", "StageError"]))

    def test_one_argument_by_place_and_by_name(self):
        for name, attribute in ONE_NAME.items():
            for value in ANY_VALUES:
                by_place = getattr(errors, name)(value)
                by_name = getattr(errors, name)(**{attribute: value})
                self.assertIs(getattr(by_place, attribute), value)
                self.assertIs(getattr(by_name, attribute), value)

    def test_invalid_text_by_place_and_by_name(self):
        for value in ANY_VALUES:
            by_place = errors.InvalidText(value, 3)
            by_name = errors.InvalidText(line=value, text="x")
            mixed = errors.InvalidText("y", line=value)
            self.assertIs(by_place.text, value)
            self.assertEqual(by_place.line, 3)
            self.assertIs(by_name.line, value)
            self.assertEqual(by_name.text, "x")
            self.assertEqual((mixed.text, mixed.line), ("y", value))

    def test_arguments_are_required(self):
        for name in [*ONE_NAME, "InvalidText"]:
            with self.assertRaises(TypeError):
                getattr(errors, name)()
        with self.assertRaises(TypeError):
            errors.InvalidText("only the text")

    def test_they_can_be_raised_and_caught(self):
        for name, attribute in ONE_NAME.items():
            with self.assertRaises(errors.StageError) as caught:
                raise getattr(errors, name)([1, "x"])
            self.assertEqual(getattr(caught.exception, attribute), [1, "x"])
            self.assertIsInstance(str(caught.exception), str)
        with self.assertRaises(ValueError):
            raise errors.InvalidText("", 0)


if __name__ == "__main__":
    unittest.main()
