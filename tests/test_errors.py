"""The errors: where they stand, and what they hold."""

import unittest

from captionhouse import errors

FIELDS = {
    "BadWords": (ValueError, "number"), "BadSpoken": (ValueError, "number"), "BadRules": (ValueError, "number"),
    "BadFile": (ValueError, "number"), "BadCuts": (ValueError, "number"), "BadChain": (ValueError, "number"),
    "BadSize": (ValueError, "value"), "BadPaper": (ValueError, "part"), "BadText": (ValueError, "line"),
    "BadCode": (ValueError, "place"), "BadCues": (ValueError, "number"), "TooGreat": (OverflowError, "most"),
}
TEXTS = {"OutOfPlace": ValueError, "Nothing": LookupError}
THINGS = (None, 0, -3, True, "x", "", (), (1, 2), [], {}, object(), 10 ** 6000, 1.5, b"x", ValueError)


class Errors(unittest.TestCase):
    def test_each_stands_straight_under_its_own(self):
        for name, (base, _) in FIELDS.items():
            self.assertEqual(getattr(errors, name).__bases__, (base,), name)
        for name, base in TEXTS.items():
            self.assertEqual(getattr(errors, name).__bases__, (base,), name)

    def test_none_is_under_another_one(self):
        classes = [getattr(errors, name) for name in [*FIELDS, *TEXTS]]
        for one in classes:
            for other in classes:
                self.assertEqual(issubclass(one, other), one is other)

    def test_each_argument_is_a_field(self):
        for name, (_, field) in FIELDS.items():
            for thing in THINGS:
                self.assertIs(getattr(getattr(errors, name)(thing), field), thing)
                self.assertIs(getattr(getattr(errors, name)(**{field: thing}), field), thing)

    def test_texts_may_be_any_things(self):
        for name in TEXTS:
            for thing in THINGS:
                self.assertIsInstance(getattr(errors, name)(thing), TEXTS[name])
                self.assertIsInstance(getattr(errors, name)(text=thing), TEXTS[name])

    def test_each_wants_one_argument(self):
        for name in [*FIELDS, *TEXTS]:
            with self.assertRaises(TypeError):
                getattr(errors, name)()
            with self.assertRaises(TypeError):
                getattr(errors, name)(1, 2)

    def test_each_can_be_raised_and_shown(self):
        for name in [*FIELDS, *TEXTS]:
            with self.assertRaises(getattr(errors, name)) as caught:
                raise getattr(errors, name)("x")
            self.assertIsInstance(str(caught.exception), str)


if __name__ == "__main__":
    unittest.main()
