"""The interface of slipleaf/errors.py."""

import unittest

from slipleaf import errors
from slipleaf.errors import LeafError
from tests.helper import LeafCase

WITH = {
    "BadAnswer": ("name",), "BadName": ("name",), "BadItem": ("number",), "Twice": ("name",),
    "Unknown": ("name",), "BadUse": ("name",), "TooLong": ("name",), "TooMany": ("kind",),
    "BadLine": ("line", "word"), "BadPerson": ("place",), "BadRecord": ("number",),
    "BadNumber": ("number",), "BadRow": ("number",), "Misled": ("answers", "number"),
    "BadOrder": ("name",), "BadNumerals": ("place",), "BadRule": ("number",),
    "BadTongue": ("name",), "NotAsked": ("name",), "BadSize": ("number",), "TooTall": ("row",),
    "BadPrint": ("row",), "BadPages": ("row",), "BadSheet": ("row",), "Stray": ("name",),
    "BadStep": ("number",), "Needed": ("name",), "Clash": ("clerk", "number"),
}
WITHOUT = (
    "BadKind", "BadContent", "BadCondition", "Ended", "Unlike", "NoRecord", "BadPaper", "BadEntry",
)


class Errors(LeafCase):
    def test_base(self):
        self.assertEqual(LeafError.__bases__, (ValueError,))

    def test_all_are_there_and_no_others(self):
        found = {
            name for name, thing in vars(errors).items()
            if isinstance(thing, type) and thing.__module__ == "slipleaf.errors"
        }
        self.assertEqual(found, {"LeafError", *WITH, *WITHOUT})

    def test_each_is_directly_under_the_base(self):
        for name in (*WITH, *WITHOUT):
            with self.subTest(name):
                self.assertEqual(getattr(errors, name).__bases__, (LeafError,))

    def test_arguments_are_kept(self):
        for name, arguments in WITH.items():
            with self.subTest(name):
                values = [f"value{at}" for at in range(len(arguments))]
                error = getattr(errors, name)(*values)
                self.assertEqual(vars(error), dict(zip(arguments, values)))
                named = getattr(errors, name)(**dict(zip(arguments, values)))
                self.assertEqual(vars(named), vars(error))
                self.assertIsInstance(str(error), str)

    def test_arguments_are_kept_as_they_are(self):
        for value in (0, -1, "", None, True, (0, 1), 10 ** 29):
            self.assertIs(errors.BadNumber(value).number, value)
        error = errors.Misled((0, 2), 7)
        self.assertEqual((error.answers, error.number), ((0, 2), 7))
        error = errors.Clash("ann", 3)
        self.assertEqual((error.clerk, error.number), ("ann", 3))

    def test_missing_arguments(self):
        for name in WITH:
            with self.subTest(name):
                self.assertRaises(TypeError, getattr(errors, name))

    def test_those_without_arguments_keep_nothing(self):
        for name in WITHOUT:
            with self.subTest(name):
                self.assertEqual(vars(getattr(errors, name)()), {})

    def test_raised_and_caught(self):
        for name, arguments in WITH.items():
            with self.subTest(name):
                with self.assertRaises(LeafError):
                    raise getattr(errors, name)(*arguments)
        for name in WITHOUT:
            with self.subTest(name):
                with self.assertRaises(ValueError):
                    raise getattr(errors, name)()


if __name__ == "__main__":
    unittest.main()
