"""The classes of keptsorted.errors."""

import copy
import pickle
import unittest

from keptsorted import errors
from tests.helpers import Awkward

FIELDS = {
    "InvalidNumber": ["number"],
    "InvalidFilling": ["index"],
    "InvalidFamily": ["chain", "index"],
    "InvalidRow": ["family", "chain", "index"],
    "NotKept": ["one", "two"],
    "NothingToUndo": [],
}


class Classes(unittest.TestCase):
    def test_each_class_stands_in_the_file(self):
        for name in FIELDS:
            self.assertIsInstance(getattr(errors, name), type)
            self.assertEqual(getattr(errors, name).__module__, "keptsorted.errors")

    def test_each_class_has_its_one_base_class(self):
        for name in FIELDS:
            base = LookupError if name == "NothingToUndo" else ValueError
            self.assertEqual(getattr(errors, name).__bases__, (base,))

    def test_no_class_is_a_subclass_of_another_one(self):
        classes = [getattr(errors, name) for name in FIELDS]
        for one in classes:
            for two in classes:
                self.assertEqual(issubclass(one, two), one is two)


class Fields(unittest.TestCase):
    def test_fields_are_set_on_creation_by_position_and_by_name(self):
        for name, fields in FIELDS.items():
            things = [[at] for at in range(len(fields))]
            made = getattr(errors, name)(*things)
            named = getattr(errors, name)(**dict(zip(fields, things)))
            self.assertEqual(sorted(vars(made)), sorted(fields))
            for field, thing in zip(fields, things):
                self.assertIs(getattr(made, field), thing)
                self.assertIs(getattr(named, field), thing)

    def test_arguments_are_needed_for_all_fields(self):
        for name, fields in FIELDS.items():
            if fields:
                with self.assertRaises(TypeError):
                    getattr(errors, name)(*fields[1:])

    def test_errors_can_be_raised_shown_and_copied(self):
        for name, fields in FIELDS.items():
            made = getattr(errors, name)(*range(len(fields)))
            with self.assertRaises(getattr(errors, name)):
                raise made
            self.assertIsInstance(str(made), str)
            self.assertEqual(vars(copy.copy(made)), vars(made))
            self.assertEqual(vars(pickle.loads(pickle.dumps(made))), vars(made))

    def test_a_thing_that_cannot_be_shown_does_not_spoil_the_message(self):
        self.assertIsInstance(str(errors.InvalidNumber(Awkward())), str)
        self.assertIsInstance(str(errors.InvalidNumber(10 ** 5000)), str)


if __name__ == "__main__":
    unittest.main()
