"""The errors of the interface."""

import unittest

from retrykeys import errors

PLAIN = [
    "InvalidSystem", "InvalidNumber", "InvalidWorkflow", "InvalidSituation", "InvalidProtection", "InvalidFaults",
    "InvalidState", "TooLarge", "InvalidWeights", "InvalidRecord", "InvalidOrder",
]
WITH_FIELD = {"InvalidEvent": "index", "ParseError": "line", "DecodeError": "offset"}


class Errors(unittest.TestCase):
    def test_base(self):
        self.assertEqual(errors.RetryError.__bases__, (ValueError,))

    def test_direct_subclasses(self):
        found = {error.__name__: error for error in errors.RetryError.__subclasses__()}
        self.assertEqual(sorted(found), sorted(PLAIN + list(WITH_FIELD)))
        for name, error in found.items():
            self.assertIs(getattr(errors, name), error)
            self.assertEqual(error.__bases__, (errors.RetryError,))

    def test_fields(self):
        for name, field in WITH_FIELD.items():
            for value in (None, 0, 7):
                self.assertEqual(getattr(getattr(errors, name)(value), field), value)

    def test_messages(self):
        for name in PLAIN:
            self.assertEqual(str(getattr(errors, name)("why")), "why")
        for name in WITH_FIELD:
            self.assertIn("3", str(getattr(errors, name)(3)))


if __name__ == "__main__":
    unittest.main()
