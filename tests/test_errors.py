"""Section 14 and what section 2 says of errors."""

import unittest

from sizesreckoned import errors
from tests.checking import Checks, any_values

NAMES = """BadRule BadSize BadLot BadMany Great NoStep BadWorth Broken Endless BadBox BadBound OtherBox BadThings
Many BadRules NoRule BadOffers NotHere BadName Here Full Known NothingToUndo NothingToRedo NoTrial BadJournal
BadLine""".split()


class Errors(Checks):

    def test_all_of_them_are_there(self):
        found = [name for name, kind in vars(errors).items() if isinstance(kind, type)]
        self.assertEqual(sorted(found), sorted(NAMES + ["ReckonError"]))
        self.assertEqual(len(NAMES), 27)

    def test_they_derive_directly_from_the_first_one(self):
        self.assertEqual(errors.ReckonError.__bases__, (ValueError,))
        for name in NAMES:
            self.assertEqual(getattr(errors, name).__bases__, (errors.ReckonError,), name)

    def test_they_are_defined_in_their_file(self):
        for name in NAMES + ["ReckonError"]:
            self.assertEqual(getattr(errors, name).__module__, "sizesreckoned.errors")

    def test_they_keep_any_value(self):
        for name in NAMES + ["ReckonError"]:
            for value in any_values():
                error = getattr(errors, name)(value)
                self.assertIs(error.value, value)
                self.assertEqual(vars(error), {"value": value})

    def test_they_take_one_argument(self):
        for name in NAMES + ["ReckonError"]:
            self.assertRaises(TypeError, getattr(errors, name))
            self.assertRaises(TypeError, getattr(errors, name), 1, 2)

    def test_they_are_caught_as_each_base(self):
        for name in NAMES:
            for base in (ValueError, errors.ReckonError):
                with self.assertRaises(base):
                    raise getattr(errors, name)(7)


if __name__ == "__main__":
    unittest.main()
