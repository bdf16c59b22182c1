"""The errors: point [2] and the heading bentlines/errors.py."""

import unittest

from bentlines import errors

ARGUMENTS = {
    "BadNumber": ("word",),
    "BadLine": ("line",),
    "BadKind": ("word",),
    "TooMany": ("word",),
    "Degenerate": ("word",),
    "BadSigns": ("at",),
    "BadTurn": ("at",),
    "NotFar": ("at",),
    "SameSlope": ("at",),
    "Unsound": ("four",),
    "NotSimple": ("knot",),
    "NotReady": ("knot",),
    "NotPlace": ("three",),
    "NotTriangle": ("three",),
    "Parted": ("line", "first", "second"),
    "OnLine": ("line",),
    "BadText": ("number",),
    "Refused": ("word",),
    "Together": (),
    "BadRatio": (),
    "NothingDone": (),
}


class ErrorsTest(unittest.TestCase):
    def test_base(self):
        """[2] BentError derives from Exception, each other error directly from BentError."""
        self.assertEqual((Exception,), errors.BentError.__bases__)
        for name in ARGUMENTS:
            self.assertEqual((errors.BentError,), getattr(errors, name).__bases__, name)

    def test_all_are_there(self):
        defined = [name for name, value in vars(errors).items() if isinstance(value, type)]
        self.assertEqual(sorted([*ARGUMENTS, "BentError"]), sorted(defined))

    def test_arguments_are_attributes(self):
        for name, arguments in ARGUMENTS.items():
            values = [f"value of {argument}" for argument in arguments]
            error = getattr(errors, name)(*values)
            self.assertEqual(values, [getattr(error, argument) for argument in arguments], name)

    def test_arguments_by_name(self):
        for name, arguments in ARGUMENTS.items():
            error = getattr(errors, name)(**{argument: 7 for argument in arguments})
            self.assertEqual([7] * len(arguments), [getattr(error, argument) for argument in arguments], name)

    def test_they_are_raised(self):
        for name, arguments in ARGUMENTS.items():
            with self.assertRaises(errors.BentError):
                raise getattr(errors, name)(*arguments)


if __name__ == "__main__":
    unittest.main()
