"""Points 62 and 63: notes of seasons."""

import random
import unittest

from millsluices.errors import BadNote, SluiceError
from millsluices.seasonnotes import format_season, parse_season
from millsluices.seasons import Season
from millsluices.valleys import Valley
from plain import large_season, random_season, random_seasons

RING = Valley.ring(3)
NOTE = "mills 3\nsluice 0 1\nsluice 1 2\nsluice 2 0 side 1\nneed 0 1\nneed 2 2\nlimit 1 1"
SEASON = Season(RING, needs=[1, 0, 2], limits=[None, 1, None]).pinned((0, 0, 1), [2])


class SeasonNotesTest(unittest.TestCase):
    def bad(self, line, text):
        with self.subTest(text):
            with self.assertRaises(SluiceError) as caught:
                parse_season(text)
            self.assertIs(caught.exception.__class__, BadNote)
            self.assertEqual(caught.exception.line, line)

    def test_ordinary(self):
        self.assertEqual(format_season(SEASON), NOTE)
        self.assertEqual(format_season(season=SEASON), NOTE)
        self.assertEqual(parse_season(NOTE), SEASON)
        self.assertEqual(parse_season(text="mills 1"), Season(Valley(1)))
        self.assertEqual(format_season(Season(Valley(24))), "mills 24")

    def test_sides(self):
        season = Season(Valley(2, [(1, 0)] * 4), sides=[(0, 1), (0,), (1,), ()])
        note = "mills 2\nsluice 1 0\nsluice 1 0 side 0\nsluice 1 0 side 1\nsluice 1 0 side none"
        self.assertEqual((format_season(season), parse_season(note)), (note, season))

    def test_limits_of_nought_and_large_numbers(self):
        season = Season(Valley(2), needs=[10 ** 39, 1], limits=[0, 10 ** 39])
        note = f"mills 2\nneed 0 1{'0' * 39}\nneed 1 1\nlimit 0 0\nlimit 1 1{'0' * 39}"
        self.assertEqual((format_season(season), parse_season(note)), (note, season))
        self.assertEqual(parse_season("mills 1\nneed 0 " + "9" * 40).needs, (10 ** 40 - 1,))

    def test_numbers_that_python_puts_into_no_text_at_once(self):
        for size in (4299, 4300, 4301, 9000):
            zeros = "0" * size
            season = Season(Valley(3), needs=[10 ** size, 0, 10 ** size + 6], limits=[10 ** size, None, 0])
            note = f"mills 3\nneed 0 1{zeros}\nneed 2 1{zeros[1:]}6\nlimit 0 1{zeros}\nlimit 2 0"
            # The notes are too long to be shown where they differ.
            self.assertTrue(format_season(season) == note, size)
            self.assertTrue(parse_season(note) == season, size)
        self.bad(1, "mills 3\nneed 1" + "0" * 5000 + " 1")
        self.bad(2, "mills 3\nneed 0 1" + "0" * 5000 + "\nneed 1 0" + "1" * 5000)

    def test_the_first_line(self):
        for text in ("", "\n", "mills", "mills ", "mills 0", "mills 25", "mills 03", "mills +3", "mills -3", "mills 3 ",
                     " mills 3", "mills  3", "mills 3 3", "mill 3", "Mills 3", "MILLS 3", "sluice 0 1", "3",
                     "mills three",
                     "mills 3.0", "mills 1_0", "mills 0x3", "mills\t3", "mills 3\r", "mills " + "9" * 40,
                     "mills 1" + "0" * 39, "need 0 1", "\nmills 3"):
            self.bad(0, text)

    def test_other_digits_and_signs_than_the_ascii_ones(self):
        for sign in ("\u0663", "\u00b3", "\uff13", "\u2462", "\u0969"):
            self.bad(0, f"mills {sign}")
            self.bad(1, f"mills 3\nneed 0 {sign}")
            self.bad(1, f"mills 3\nneed {sign} 1")
            self.bad(1, f"mills 3\nsluice {sign} 0")
        for sign in ("\u00a0", "\u2003", "\u3000", "\x0b", "\x0c", "\t", "\r"):
            self.bad(0, f"mills{sign}3")
            self.bad(1, f"mills 3\nsluice 0{sign}1")
        for sign in ("\x0b", "\x0c", "\r", "\u2028", "\x85", "\x1c"):
            self.bad(0, f"mills 3{sign}sluice 0 1")
        self.bad(0, "mills \u22123")

    def test_sluices(self):
        for line in ("sluice", "sluice 0", "sluice 0 3", "sluice 3 0", "sluice 1 1", "sluice 0 1 side",
                     "sluice 0 1 side 2",
                     "sluice 0 1 side 00", "sluice 0 1 side 01", "sluice 0 1 side None", "sluice 0 1 side both",
                     "sluice 0 1 side 0 1", "sluice 0 1 0", "sluice 0 1 sides 0", "sluice 0 1 side  0", "sluice 0 1 ",
                     " sluice 0 1", "sluice  0 1", "sluice 00 1", "sluice 0 01", "sluice +0 1", "sluice 0 -1",
                     "sluice -1 0", "sluice a b", "Sluice 0 1", "sluices 0 1", "sluice 0 1 side ", "sluice 0 1 side -1",
                     "sluice 0 1 2", "sluice 0 " + "1" * 40, "mills 3", "sluice 0,1", ""):
            self.bad(1, f"mills 3\n{line}")
            self.bad(2, f"mills 3\nsluice 0 1\n{line}\nsluice 1 2")

    def test_many_sluices(self):
        note = "mills 24" + "\nsluice 0 1" * 48
        self.assertEqual(parse_season(note), Season(Valley(24, [(0, 1)] * 48)))
        self.bad(49, note + "\nsluice 0 1")
        self.bad(49, note + "\nsluice 0 1\nneed 0 0")
        self.assertEqual(parse_season(note + "\nlimit 3 7").limits[3], 7)

    def test_needs_and_limits(self):
        for word in ("need", "limit"):
            for line in (word, f"{word} 0", f"{word} 0 01", f"{word} 0 -1", f"{word} 0 +1", f"{word} 3 1",
                         f"{word} 0 1 1", f"{word} 0  1", f"{word} 0 1 ", f" {word} 0 1", f"{word} 00 1",
                         f"{word}s 0 1", f"{word} 0 None",
                         f"{word} 0 none", f"{word} -1 1", f"{word} 0 1.0", f"{word} 0 ", f"{word}  1", f"{word} 0 1,2",
                         word.upper() + " 0 1", ""):
                self.bad(1, f"mills 3\n{line}")
                self.bad(2, f"mills 3\nsluice 0 1\n{line}")
            self.bad(2, f"mills 3\n{word} 0 1\n{word} 0 2")
            self.bad(2, f"mills 3\n{word} 0 1\n{word} 0 1")
            self.bad(2, f"mills 3\n{word} 1 1\n{word} 0 1")
            self.bad(3, f"mills 3\n{word} 0 1\n{word} 2 1\n{word} 1 1")
        self.bad(1, "mills 3\nneed 0 0")
        self.bad(2, "mills 3\nneed 0 1\nneed 1 0")

    def test_lines_out_of_order(self):
        self.bad(2, "mills 2\nneed 0 1\nsluice 0 1")
        self.bad(2, "mills 2\nlimit 0 1\nsluice 0 1")
        self.bad(2, "mills 2\nlimit 0 1\nneed 0 1")
        self.bad(2, "mills 2\nneed 0 1\nneed 0 2")
        self.bad(3, "mills 2\nsluice 0 1\nlimit 0 1\nlimit 0 1\nlimit 1 1")
        self.bad(3, "mills 2\nneed 0 1\nlimit 0 1\nneed 1 1\nlimit 1 1")
        self.bad(1, "mills 2\nmills 2")

    def test_empty_lines(self):
        self.bad(1, "mills 3\n")
        self.bad(7, NOTE + "\n")
        self.bad(2, "mills 3\nsluice 0 1\n\nsluice 0 1")
        self.bad(0, "\n" + NOTE)
        self.bad(0, "\n\n")

    def test_the_first_of_several_bad_lines(self):
        self.bad(1, "mills 3\nsluice 0 0\nneed 5 1\n")
        self.bad(2, "mills 3\nneed 2 1\nneed 1 1\nlimit 9 9")

    def test_formatted_notes_are_parsed_again(self):
        rng = random.Random(1)
        seasons = random_seasons(2, 200) + [large_season(seed)[0] for seed in range(5)]
        seasons += [random_season(rng).freed(()) for _ in range(20)]
        for season in seasons:
            note = format_season(season)
            self.assertEqual(parse_season(note), season)
            self.assertEqual(format_season(parse_season(note)), note)

    def test_changed_notes(self):
        """A note is parsed only if it is the note of what is returned."""
        rng = random.Random(3)
        good = 0
        for season in random_seasons(4, 200):
            text = list(format_season(season))
            for _ in range(rng.randint(1, 2)):
                at = rng.randrange(len(text))
                text[at:at + rng.randint(0, 1)] = rng.choice(["", "0", "1", "2", " ", "\n", "-", "need", "side 0"])
            text = "".join(text)
            try:
                found = parse_season(text)
            except BadNote as error:
                self.assertTrue(0 <= error.line <= text.count("\n"))
                # The lines above it are the beginning of a note.
                lines = text.split("\n")[:error.line]
                if lines:
                    self.assertEqual(format_season(parse_season("\n".join(lines))), "\n".join(lines))
            else:
                good += 1
                self.assertEqual(format_season(found), text)
        self.assertTrue(20 < good < 180, good)


if __name__ == "__main__":
    unittest.main()
