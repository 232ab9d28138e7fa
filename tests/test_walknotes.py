"""Points 62 and 64: notes of settings and of turns."""

import random
import unittest

from millsluices.errors import BadNote, SluiceError
from millsluices.valleys import Valley
from millsluices.walknotes import format_setting, format_turns, parse_setting, parse_turns
from plain import only_tuples

RING = Valley.ring(3)
BARE = Valley(2)
LONG = Valley(2, [(0, 1)] * 48)
OTHER_DIGITS = ("\u0661", "\u00b9", "\uff11", "\u2460", "\u0967")


class WalkNotesTest(unittest.TestCase):
    def bad(self, line, call, valley, text):
        with self.subTest(text):
            with self.assertRaises(SluiceError) as caught:
                call(valley, text)
            self.assertIs(caught.exception.__class__, BadNote)
            self.assertEqual(caught.exception.line, line)

    def test_settings(self):
        self.assertEqual(format_setting((0, 1, 1)), "011")
        self.assertEqual(format_setting(setting=[1, 0]), "10")
        self.assertEqual(parse_setting(RING, "011"), (0, 1, 1))
        self.assertEqual(parse_setting(valley=RING, text="000"), (0, 0, 0))
        self.assertTrue(only_tuples(parse_setting(RING, "011")))
        self.assertEqual(parse_setting(LONG, "01" * 24), (0, 1) * 24)
        self.assertEqual(format_setting((1,) * 48), "1" * 48)

    def test_settings_without_sluices(self):
        self.assertEqual((format_setting(()), parse_setting(BARE, "")), ("", ()))
        for text in ("-", "0", " "):
            self.bad(0, parse_setting, BARE, text)
        self.bad(1, parse_setting, BARE, "\n")

    def test_bad_settings(self):
        for text in ("", "-", "01", "0110", "012", "01 ", " 01", "0 1 1", "0,1", "01a", "+01", "011 ", " 011", "-11"):
            self.bad(0, parse_setting, RING, text)
        for sign in OTHER_DIGITS:
            self.bad(0, parse_setting, RING, "01" + sign)
        self.bad(0, parse_setting, LONG, "0" * 47)
        self.bad(0, parse_setting, RING, "01\n011")
        for text in ("011\n", "011\n011", "011\n\n", "011\n "):
            self.bad(1, parse_setting, RING, text)

    def test_turns(self):
        self.assertEqual(format_turns((2, 0, 2)), "2 0 2")
        self.assertEqual(format_turns(turns=[47]), "47")
        self.assertEqual(format_turns(()), "")
        self.assertEqual(parse_turns(RING, "2 0 2"), (2, 0, 2))
        self.assertEqual(parse_turns(valley=LONG, text="47 10 0"), (47, 10, 0))
        self.assertEqual((parse_turns(RING, ""), parse_turns(BARE, "")), ((), ()))
        self.assertTrue(only_tuples(parse_turns(RING, "2 0")))

    def test_bad_turns(self):
        for text in ("3", "-1", "+1", "01", "00", "1 ", " 1", "1  2", " ", "1,2", "a", "1 3 1", "1\t2", "1 2\r", "1.0",
                     "-", "1_1", "0x1", "9" * 40, "1" + "0" * 39):
            self.bad(0, parse_turns, RING, text)
        for sign in OTHER_DIGITS:
            self.bad(0, parse_turns, RING, sign)
            self.bad(0, parse_turns, RING, "1 " + sign)
        self.bad(0, parse_turns, BARE, "0")
        self.bad(0, parse_turns, LONG, "48")
        self.bad(0, parse_turns, RING, "3\n1")
        for text in ("\n", "1\n", "1 2\n0", "\n1", "\n\n"):
            self.bad(1, parse_turns, RING, text)

    def test_formatted_notes_are_parsed_again(self):
        rng = random.Random(1)
        for _ in range(100):
            size = rng.randint(0, 48)
            valley = Valley(2, [(0, 1)] * size)
            setting = tuple(rng.randint(0, 1) for _ in range(size))
            turns = tuple(rng.randrange(size) for _ in range(rng.randint(0, 9))) if size else ()
            self.assertEqual(parse_setting(valley, format_setting(setting)), setting)
            self.assertEqual(parse_turns(valley, format_turns(turns)), turns)


if __name__ == "__main__":
    unittest.main()
