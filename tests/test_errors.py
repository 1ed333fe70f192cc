"""Point 4: the errors."""

import copy
import inspect
import unittest

from helpers import ATTRIBUTES, Case
from surerails import errors

LISTS = {"Ring": "events", "Circular": "ring", "Blamed": "acts", "Impossible": "ring",
         "CannotQuicken": "steps", "NoLeave": "settings"}


def values_for(name):
    """Values of the right kind for the attributes of an error."""
    values = []
    for at, attribute in enumerate(ATTRIBUTES[name]):
        if LISTS.get(name) == attribute:
            values.append([(0, 1, 5, ("told", 0, 1))] if name == "Impossible" else [4 + at, 7])
        elif attribute == "place" and name != "BadTear":
            values.append(("track", 3, 1))
        elif attribute == "east":
            values.append(False)
        else:
            values.append(at + 11)
    return values


class TestErrors(Case):

    def test_the_file_has_just_the_listed_errors(self):
        found = [name for name, _ in inspect.getmembers(errors, inspect.isclass)]
        self.assertEqual(sorted(found), sorted(list(ATTRIBUTES) + ["RailsError"]))

    def test_the_base_class_is_a_value_error(self):
        self.assertEqual(errors.RailsError.__bases__, (ValueError,))

    def test_each_error_is_a_direct_subclass_of_the_base_class(self):
        for name in ATTRIBUTES:
            with self.subTest(name):
                self.assertEqual(getattr(errors, name).__bases__, (errors.RailsError,))

    def test_attributes_are_set_by_position_in_the_listed_order(self):
        for name, attributes in ATTRIBUTES.items():
            with self.subTest(name):
                values = values_for(name)
                error = getattr(errors, name)(*values)
                self.assertEqual([getattr(error, attribute) for attribute in attributes], values)
                self.assertEqual(sorted(vars(error)), sorted(attributes))

    def test_attributes_are_set_by_name(self):
        for name, attributes in ATTRIBUTES.items():
            with self.subTest(name):
                values = values_for(name)
                error = getattr(errors, name)(**dict(zip(attributes, values)))
                self.assertEqual([getattr(error, attribute) for attribute in attributes], values)

    def test_a_missing_or_additional_value_is_not_taken(self):
        for name in ATTRIBUTES:
            with self.subTest(name):
                values = values_for(name)
                if values:
                    self.assertRaises(TypeError, getattr(errors, name), *values[1:])
                    self.assertRaises(TypeError, getattr(errors, name), *values, 1)

    def test_a_list_is_copied(self):
        for name, attribute in LISTS.items():
            with self.subTest(name):
                values = values_for(name)
                error = getattr(errors, name)(*values)
                text = str(error)
                expected = list(values[-1])
                values[-1].clear()
                self.assertEqual(getattr(error, attribute), expected)
                self.assertIs(type(getattr(error, attribute)), list)
                self.assertEqual(str(error), text)

    def test_an_error_can_be_copied(self):
        for name, attributes in ATTRIBUTES.items():
            with self.subTest(name):
                error = copy.copy(getattr(errors, name)(*values_for(name)))
                self.assertEqual([getattr(error, attribute) for attribute in attributes], values_for(name))

    def test_no_placing_takes_none(self):
        error = errors.NoPlacing(None, None)
        self.assertEqual((error.least, error.greatest), (None, None))

    def test_they_can_be_raised_and_caught_as_the_base_class(self):
        for name in ATTRIBUTES:
            with self.subTest(name):
                with self.assertRaises(errors.RailsError):
                    raise getattr(errors, name)(*values_for(name))


if __name__ == "__main__":
    unittest.main()
