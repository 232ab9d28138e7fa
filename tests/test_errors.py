"""The interface's errors: their classes and fields."""

import unittest

from millsluices import errors

FIELDS = {
    "BadSluice": "index", "BadNeed": "index", "BadLimit": "index", "BadSides": "index", "ValleysDiffer": None,
    "NothingRuns": None, "NotRunning": "setting", "BadWalk": "index", "EndlessPlan": None, "BadFollow": "index",
    "BadMove": "index", "NoHistory": None, "HasLimits": "mill", "NoSide": "sluice", "Jammed": "sluice",
    "WouldStop": "sluice", "NoWay": "blocked", "NothingToUndo": None, "BadNote": "line",
}


class ErrorsTest(unittest.TestCase):
    def test_base(self):
        self.assertEqual(errors.SluiceError.__bases__, (ValueError,))

    def test_each_error_derives_directly_from_the_base(self):
        self.assertEqual(len(FIELDS), 19)
        for name in FIELDS:
            with self.subTest(name):
                self.assertEqual(getattr(errors, name).__bases__, (errors.SluiceError,))

    def test_fields(self):
        for name, field in FIELDS.items():
            kind = getattr(errors, name)
            with self.subTest(name):
                if field is None:
                    self.assertIsInstance(kind(), errors.SluiceError)
                elif field in ("setting", "blocked"):
                    self.assertEqual(getattr(kind((1, 0)), field), (1, 0))
                    self.assertEqual(getattr(kind([1, 0]), field), (1, 0))
                    self.assertEqual(getattr(kind(()), field), ())
                else:
                    self.assertEqual(getattr(kind(7), field), 7)

    def test_errors_have_a_text(self):
        for name, field in FIELDS.items():
            kind = getattr(errors, name)
            error = kind() if field is None else kind((3,)) if field in ("setting", "blocked") else kind(3)
            self.assertIsInstance(str(error), str)


if __name__ == "__main__":
    unittest.main()
