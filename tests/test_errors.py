"""Part 0, point 0.3: the errors, what they are and what they keep."""

import copy
import pickle
import unittest

from helper import odd_things
from latestword import errors

FIELDS = {
    "BadOffice": "part", "BadBook": "part", "BadMachine": "part", "BadText": "line",
    "BadDealer": "row", "BadWorker": "row", "TooMany": "most", "NoName": "name",
}
PLAIN = [
    "NoWork", "NoDesk", "NoLot", "NoRow", "NoLogs", "NoPlace", "NoSlip", "NoSlips", "NoLabels",
    "NoMany", "NoMatch", "NoPairs", "NotEven", "NoNotes", "NotShareable", "NoLength", "NoNumber",
    "NothingDone", "NoLine", "NoCounts", "NoCut", "NoGoals", "NoNote", "NotComing", "NoLetter",
    "IsDown", "IsUp", "NoJournals", "Faulty",
]


class Errors(unittest.TestCase):
    def test_base(self):
        self.assertEqual(errors.OfficeError.__bases__, (ValueError,))
        self.assertTrue(issubclass(errors.OfficeError, ValueError))

    def test_each_is_derived_directly(self):
        for name in list(FIELDS) + PLAIN:
            with self.subTest(name):
                self.assertEqual(getattr(errors, name).__bases__, (errors.OfficeError,))
                self.assertEqual(getattr(errors, name).__name__, name)

    def test_there_are_no_others(self):
        own = [name for name, thing in vars(errors).items() if isinstance(thing, type)]
        self.assertEqual(sorted(own), sorted(list(FIELDS) + PLAIN + ["OfficeError"]))

    def test_fields_keep_what_was_passed(self):
        for name, field in FIELDS.items():
            for thing in odd_things():
                error = getattr(errors, name)(thing)
                self.assertIs(getattr(error, field), thing)
                self.assertIsInstance(error, errors.OfficeError)
                self.assertIsInstance(error, ValueError)

    def test_fields_are_kept_apart(self):
        one = errors.BadOffice("desks")
        other = errors.BadOffice("works")
        self.assertEqual((one.part, other.part), ("desks", "works"))

    def test_each_needs_just_its_field(self):
        for name in FIELDS:
            for wrong in ((), (1, 2)):
                with self.subTest(name, wrong=wrong), self.assertRaises(TypeError):
                    getattr(errors, name)(*wrong)

    def test_plain_errors_are_made_with_nothing(self):
        for name in PLAIN:
            with self.subTest(name):
                error = getattr(errors, name)()
                self.assertIsInstance(error, errors.OfficeError)
                self.assertIsInstance(error, ValueError)
                self.assertEqual(vars(error), {})

    def test_each_is_raised_and_caught_by_its_name(self):
        for name in PLAIN:
            for base in (getattr(errors, name), errors.OfficeError, ValueError):
                with self.subTest(name, base=base), self.assertRaises(base):
                    raise getattr(errors, name)()

    def test_copies_keep_the_field(self):
        for name, field in FIELDS.items():
            error = getattr(errors, name)((0, 1))
            for other in (copy.copy(error), pickle.loads(pickle.dumps(error))):
                self.assertEqual(getattr(other, field), (0, 1))


if __name__ == "__main__":
    unittest.main()
