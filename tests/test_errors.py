"""The error classes of cappedcalls.errors."""

import inspect
import unittest

from cappedcalls import errors
from cappedcalls.errors import CappedError

ATTRIBUTES = {
    "UnknownName": ["name"],
    "SchemaMismatch": [],
    "WidthMismatch": [],
    "LimitExceeded": ["limit"],
    "InvalidSchema": ["part", "name"],
    "InvalidStore": ["table", "at"],
    "InvalidCall": ["service"],
    "InvalidChoice": ["service", "given"],
    "InvalidProgram": ["part", "at"],
    "InvalidQuestion": ["part", "at"],
    "InvalidNote": ["part"],
    "Contradiction": ["word"],
    "Unsteady": ["which"],
    "InvalidLine": ["at"],
    "NotNoted": ["service", "given"],
    "NoAnswers": [],
    "NothingLeft": ["word"],
}


class ErrorsTest(unittest.TestCase):
    def test_base_class(self):
        self.assertEqual(CappedError.__bases__, (ValueError,))
        self.assertEqual(CappedError.__module__, "cappedcalls.errors")

    def test_all_classes_are_there_and_no_others(self):
        found = [name for name, thing in vars(errors).items() if inspect.isclass(thing)]
        self.assertEqual(sorted(found), sorted([*ATTRIBUTES, "CappedError"]))

    def test_direct_subclasses(self):
        for name in ATTRIBUTES:
            self.assertEqual(getattr(errors, name).__bases__, (CappedError,), name)
            self.assertEqual(getattr(errors, name).__module__, "cappedcalls.errors")

    def test_attributes_are_set_in_the_order_of_the_list(self):
        for name, attributes in ATTRIBUTES.items():
            given = [f"thing {at}" for at in range(len(attributes))]
            error = getattr(errors, name)(*given)
            self.assertEqual(vars(error), dict(zip(attributes, given)), name)

    def test_attributes_by_their_names(self):
        for name, attributes in ATTRIBUTES.items():
            given = {attribute: ("a", 1) for attribute in attributes}
            self.assertEqual(vars(getattr(errors, name)(**given)), given, name)

    def test_too_few_and_too_many_arguments(self):
        for name, attributes in ATTRIBUTES.items():
            if attributes:
                with self.assertRaises(TypeError):
                    getattr(errors, name)(*attributes, 1)
                with self.assertRaises(TypeError):
                    getattr(errors, name)(*attributes[1:])

    def test_each_is_caught_as_the_base_class_and_no_other(self):
        for name, attributes in ATTRIBUTES.items():
            for other in ATTRIBUTES:
                error = getattr(errors, name)(*attributes)
                self.assertEqual(isinstance(error, getattr(errors, other)), name == other)
            with self.assertRaises(CappedError):
                raise getattr(errors, name)(*attributes)

    def test_any_name_can_be_told(self):
        huge = 10 ** 5000
        self.assertEqual(errors.UnknownName(huge).name, huge)
        self.assertEqual(errors.UnknownName(["a"]).name, ["a"])
        self.assertIn("road", str(errors.InvalidSchema("keys", "road")))


if __name__ == "__main__":
    unittest.main()
