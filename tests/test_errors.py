"""The classes of errors: what stands under what, and their fields."""

import unittest

from evenwheels import errors

WITH_PLACE = ["BadMachine", "BadLoad", "BadSpot", "BadPaper"]
WITH_NUMBER = ["BadRule", "BadReadings"]
OF_A_TEXT = {"OutOfPlace": "WheelError", "TooGreat": "WheelError", "Never": "MissError", "NoTouch": "MissError"}
ALL = WITH_PLACE + WITH_NUMBER + list(OF_A_TEXT)


class Errors(unittest.TestCase):
    def test_roots(self):
        self.assertEqual(errors.WheelError.__bases__, (ValueError,))
        self.assertEqual(errors.MissError.__bases__, (LookupError,))

    def test_each_stands_straight_under_its_root(self):
        for name in WITH_PLACE + WITH_NUMBER:
            self.assertEqual(getattr(errors, name).__bases__, (errors.WheelError,), name)
        for name, root in OF_A_TEXT.items():
            self.assertEqual(getattr(errors, name).__bases__, (getattr(errors, root),), name)

    def test_none_stands_under_another(self):
        for name in ALL:
            for other in ALL:
                if name != other:
                    self.assertFalse(issubclass(getattr(errors, name), getattr(errors, other)), (name, other))

    def test_roots_are_apart(self):
        self.assertFalse(issubclass(errors.WheelError, errors.MissError))
        self.assertFalse(issubclass(errors.MissError, errors.WheelError))

    def test_each_is_defined_there(self):
        for name in ALL + ["WheelError", "MissError"]:
            self.assertEqual(getattr(errors, name).__module__, "evenwheels.errors")

    def check_field(self, name, field):
        made = getattr(errors, name)
        for worth in (None, 0, 7, "counts", (1, 2), ("closed", 3), ()):
            self.assertEqual(getattr(made(worth), field), worth)
            self.assertEqual(getattr(made(**{field: worth}), field), worth)
        self.assertIsNone(getattr(made(), field))
        self.assertEqual(vars(made(5)), {field: 5})
        with self.assertRaises(TypeError):
            made(1, 2)

    def test_places(self):
        for name in WITH_PLACE:
            with self.subTest(name):
                self.check_field(name, "place")

    def test_numbers(self):
        for name in WITH_NUMBER:
            with self.subTest(name):
                self.check_field(name, "number")

    def test_those_made_of_a_text(self):
        for name in OF_A_TEXT:
            made = getattr(errors, name)("some text")
            self.assertEqual(str(made), "some text")
            self.assertEqual(made.args, ("some text",))

    def test_they_are_caught_by_their_roots(self):
        for name in ALL:
            root = OF_A_TEXT.get(name, "WheelError")
            with self.assertRaises(getattr(errors, root)):
                raise getattr(errors, name)("x")
