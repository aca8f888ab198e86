"""Points [5] and [6]: the error classes, their attributes, and that none but the base stands above another."""

import unittest

from tworooms import errors

WITH_ATTRIBUTES = {
    "BadNumber": ("what", "value"), "NoHand": ("hand",), "BadName": ("name",), "TooMany": ("what", "most"),
    "NoEntry": ("entry",), "NoPlace": ("place",), "SelfTie": ("place",), "Repeated": ("what",),
    "BadSigns": ("at",), "BadText": ("line", "word"), "BadTree": ("at",), "NotRight": ("place",),
    "NoStone": ("place",), "Stands": ("place",), "Falls": ("place",), "Occupied": ("place",),
    "SelfTaking": ("place",), "ComesBack": ("place",), "BadDeed": ("at", "reason"), "BadRow": ("word", "reason"),
}
WITHOUT = ("BadMap", "GameOver", "NothingDone")


class TestErrors(unittest.TestCase):
    def test_each_class_stands_directly_under_the_base(self):
        for name in list(WITH_ATTRIBUTES) + list(WITHOUT):
            self.assertEqual(getattr(errors, name).__bases__, (errors.TworoomsError,), name)
        self.assertEqual(errors.TworoomsError.__bases__, (ValueError,))

    def test_no_class_but_the_base_is_above_another(self):
        names = list(WITH_ATTRIBUTES) + list(WITHOUT)
        for one in names:
            for two in names:
                below = issubclass(getattr(errors, one), getattr(errors, two))
                self.assertEqual(below, one == two, (one, two))

    def test_attributes_by_position_and_by_name(self):
        for name, parameters in WITH_ATTRIBUTES.items():
            values = [object() for _ in parameters]
            for error in (getattr(errors, name)(*values), getattr(errors, name)(**dict(zip(parameters, values)))):
                for parameter, value in zip(parameters, values):
                    self.assertIs(getattr(error, parameter), value, (name, parameter))

    def test_the_number_of_arguments(self):
        for name, parameters in WITH_ATTRIBUTES.items():
            with self.assertRaises(TypeError):
                getattr(errors, name)(*range(len(parameters) - 1))
            with self.assertRaises(TypeError):
                getattr(errors, name)(*range(len(parameters) + 1))

    def test_constructors_check_nothing(self):
        for value in (None, True, -1, "", [], ("a", 2)):
            self.assertIs(errors.NoPlace(value).place, value)
            self.assertIs(errors.BadNumber(value, value).value, value)
            self.assertIs(errors.BadText(value, value).line, value)

    def test_classes_without_arguments(self):
        for name in WITHOUT:
            with self.assertRaises(errors.TworoomsError):
                raise getattr(errors, name)()

    def test_each_constructor_is_defined_in_its_own_class(self):
        for name in WITH_ATTRIBUTES:
            self.assertIn("__init__", vars(getattr(errors, name)), name)


if __name__ == "__main__":
    unittest.main()
