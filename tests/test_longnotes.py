"""Points 62 and 64: notes of histories and of plans."""

import random
import unittest

from millsluices.errors import BadNote, SluiceError
from millsluices.longnotes import format_history, format_plan, parse_history, parse_plan
from millsluices.plans import Plan, find_plan
from millsluices.seasons import Season
from millsluices.valleys import Valley
from plain import only_tuples

RING = Valley.ring(3)
FOUR = RING.built([(0, 1)])
BARE = Valley(2)
LONG = Valley(2, [(0, 1)] * 48)
ROWS = (((0, 0, 0, 0), (), 3), ((0, 0, 0, 0), (0, 3), 0))
OTHER_DIGITS = ("\u0661", "\u00b9", "\uff11", "\u2460", "\u0967")


class LongNotesTest(unittest.TestCase):
    def bad(self, line, call, valley, text):
        with self.subTest(text):
            with self.assertRaises(SluiceError) as caught:
                call(valley, text)
            self.assertIs(caught.exception.__class__, BadNote)
            self.assertEqual(caught.exception.line, line)

    def test_histories(self):
        self.assertEqual(format_history(((0, 0, 1), ((2, 0), (), (1,)))), "001\n2 0\n\n1")
        self.assertEqual(format_history(history=[[0, 0, 1], []]), "001")
        self.assertEqual(parse_history(RING, "001\n2 0\n\n1"), ((0, 0, 1), ((2, 0), (), (1,))))
        self.assertEqual(parse_history(valley=RING, text="001"), ((0, 0, 1), ()))
        self.assertEqual(parse_history(RING, "001\n"), ((0, 0, 1), ((),)))
        self.assertEqual(parse_history(RING, "001\n\n\n"), ((0, 0, 1), ((), (), ())))
        self.assertTrue(only_tuples(parse_history(RING, "001\n2 0\n\n1")))

    def test_many_nights(self):
        history = ((0, 1, 1), ((), (0, 1, 2)) * 40)
        self.assertEqual(parse_history(RING, format_history(history)), history)

    def test_histories_without_sluices(self):
        self.assertEqual(format_history(((), ((), ()))), "-\n\n")
        self.assertEqual(format_history(((), ())), "-")
        self.assertEqual(parse_history(BARE, "-\n\n"), ((), ((), ())))
        self.assertEqual(parse_history(BARE, "-"), ((), ()))
        for text in ("", "\n", "0", "--", " -", "- "):
            self.bad(0, parse_history, BARE, text)
        self.bad(1, parse_history, BARE, "-\n0")
        self.bad(2, parse_history, BARE, "-\n\n-")

    def test_bad_histories(self):
        for text in ("", "\n", "-", "00", "0000", "002", "001 ", " 001", "0 0 1", "\n001", "2 0\n001"):
            self.bad(0, parse_history, RING, text)
        for line in ("3", "-", "01", "1 ", " 1", "1  2", " ", "1,2", "+1", "-1", "9" * 40, "001", "\t"):
            self.bad(1, parse_history, RING, f"001\n{line}")
            self.bad(3, parse_history, RING, f"001\n0\n\n{line}\n1")
        for sign in OTHER_DIGITS:
            self.bad(0, parse_history, RING, f"00{sign}")
            self.bad(1, parse_history, RING, f"001\n{sign}")
        self.bad(1, parse_history, RING, "001\n3\n4")

    def test_plans(self):
        self.assertEqual(format_plan(Plan(ROWS)), "0000 - 3\n0000 0,3 0")
        self.assertEqual(parse_plan(FOUR, "0000 - 3\n0000 0,3 0"), Plan(ROWS))
        self.assertEqual(parse_plan(valley=FOUR, text="1111 0,1,2,3 0").rows, (((1, 1, 1, 1), (0, 1, 2, 3), 0),))
        self.assertTrue(only_tuples(parse_plan(FOUR, "0000 0,3 0").rows))
        self.assertEqual(format_plan(plan=Plan([((0,) * 48, (9, 10, 47), 12)])), "0" * 48 + " 9,10,47 12")

    def test_rows_stand_as_they_were_passed(self):
        rows = (ROWS[1], ROWS[0], ROWS[1])
        self.assertEqual(format_plan(Plan(rows)), "0000 0,3 0\n0000 - 3\n0000 0,3 0")
        self.assertEqual(parse_plan(FOUR, format_plan(Plan(rows))).rows, rows)

    def test_plans_without_rows(self):
        self.assertEqual(format_plan(Plan([])), "")
        for valley in (FOUR, BARE):
            self.assertEqual(parse_plan(valley, ""), Plan([]))

    def test_plans_without_sluices(self):
        self.assertEqual(format_plan(Plan([((), (), 0)])), "- - 0")
        self.bad(0, parse_plan, BARE, "- - 0")
        self.bad(0, parse_plan, FOUR, "- - 0")

    def test_bad_plans(self):
        for line in ("0000", "0000 -", "0000 3", "0000 - 4", "0000 - -", "0000 - -1", "0000 - +1", "0000 - 03",
                     "000 - 3", "00000 - 3", "0002 - 3", "0000 4 3", "0000 3,0 0", "0000 0,0 1", "0000 0,3, 0", "0000 ,3 0",
                     "0000 0,,3 0", "0000 00 0", "0000 0,03 0", "0000 -,3 0", "0000 0;3 0", "0000  - 3", "0000 - 3 ",
                     " 0000 - 3", "0000 -  3", "0000 - 3 3", "0000 0, 3 0", "0000\t- 3", "0000 -- 3", "0 - 3",
                     "0000 -0 3", "0000 +1 3", "0000 - 3\r", "0000 - " + "9" * 40, "0000 0,4 3", "-"):
            self.bad(0, parse_plan, FOUR, line)
            self.bad(1, parse_plan, FOUR, f"0000 - 3\n{line}\n0000 - 3")
        for sign in OTHER_DIGITS:
            for line in (f"000{sign} - 3", f"0000 {sign} 3", f"0000 - {sign}", f"0000 0,{sign} 3"):
                self.bad(0, parse_plan, FOUR, line)
        self.bad(1, parse_plan, FOUR, "0000 - 3\n")
        self.bad(1, parse_plan, FOUR, "0000 - 3\n\n0000 - 3")

    def test_formatted_notes_are_parsed_again(self):
        rng = random.Random(1)
        for _ in range(100):
            size = rng.randint(0, 48)
            valley = Valley(2, [(0, 1)] * size)
            setting = tuple(rng.randint(0, 1) for _ in range(size))
            nights = tuple(tuple(rng.choices(range(size), k=rng.randint(0, 3))) if size else ()
                           for _ in range(rng.randint(0, 4)))
            self.assertEqual(parse_history(valley, format_history((setting, nights))), (setting, nights))
            if size:
                rows = [(setting, tuple(sorted(rng.sample(range(size), rng.randint(0, min(size, 4))))),
                         rng.randrange(size)) for _ in range(rng.randint(0, 4))]
                self.assertEqual(parse_plan(valley, format_plan(Plan(rows))), Plan(rows))

    def test_plans_that_were_found(self):
        season = Season(FOUR, needs=[1, 1, 1])
        plan = find_plan(season, Season(FOUR, needs=[1, 2, 1]), (0, 0, 0, 0), most=1)
        self.assertTrue(len(plan) > 1)
        self.assertEqual(parse_plan(FOUR, format_plan(plan)), plan)


if __name__ == "__main__":
    unittest.main()
