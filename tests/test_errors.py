"""The error classes of the interface."""

import unittest

from framehistory import errors

PLAIN = (
    "BadCares", "BadDeed", "NotPossible", "BadStep", "BadMachine", "TooLarge", "BadDeeds", "BadPath",
    "BadAddress", "BadWords", "NotSafe", "BadField", "BadCosts", "NothingDone",
)
WITH_ATTRIBUTE = (("BadSite", "part"), ("BadHistory", "index"), ("BadText", "row"), ("BadDigits", "offset"))


class ErrorClasses(unittest.TestCase):
    def test_direct_bases(self):
        self.assertEqual(errors.FrameError.__bases__, (ValueError,))
        for name in PLAIN + tuple(name for name, _ in WITH_ATTRIBUTE):
            self.assertEqual(getattr(errors, name).__bases__, (errors.FrameError,), name)

    def test_there_are_no_others(self):
        found = [name for name, value in vars(errors).items() if isinstance(value, type)]
        self.assertEqual(sorted(found), sorted(("FrameError",) + PLAIN + tuple(name for name, _ in WITH_ATTRIBUTE)))

    def test_they_are_defined_here(self):
        for name in PLAIN + tuple(name for name, _ in WITH_ATTRIBUTE):
            self.assertEqual(getattr(errors, name).__module__, "framehistory.errors")

    def test_attributes(self):
        for name, attribute in WITH_ATTRIBUTE:
            for value in (None, 0, 7, "CAP"):
                error = getattr(errors, name)(value)
                self.assertEqual(getattr(error, attribute), value)
                self.assertIn(attribute, vars(error))

    def test_plain_ones_take_a_message(self):
        for name in PLAIN:
            self.assertEqual(str(getattr(errors, name)("words")), "words")


if __name__ == "__main__":
    unittest.main()
