"""Point 38: settings that do not last."""

import random
import unittest

from millsluices.calendars import Calendar
from millsluices.errors import NotRunning, SluiceError
from millsluices.falling import fall_table, falls_after, is_fall_table
from millsluices.lasting import lasts
from millsluices.seasons import Season
from millsluices.valleys import Valley
from plain import (all_running, all_settings, as_lists, ball, only_tuples, plain_falling, random_calendar_seasons,
                   random_follows, runs, same_as)

RING = Valley.ring(3)
FIRST, SECOND = Season(RING, needs=[1, 1, 0]), Season(RING, needs=[0, 1, 1])
YEAR = Calendar.yearly([FIRST, SECOND])
ROWS = ((0, (0, 0, 1), 1), (0, (1, 0, 1), 1), (1, (1, 0, 0), 1), (1, (1, 1, 0), 1))
PAIR = Valley(2, [(0, 1), (0, 1)])


def plain_is_table(calendar, rows, notice, turns):
    """The conditions of point 38, word for word."""
    def falls(later, after, number):
        return any(row[0] == later and tuple(row[1]) == after and row[2] < number for row in rows)

    for index, setting, number in rows:
        if number < 1 or not runs(calendar.seasons[index], setting):
            return False
        reach = ball(calendar.seasons[index], tuple(setting), turns)
        follows = calendar.follows[index]
        if notice:
            good = any(all(falls(later, after, number) for after in reach if runs(calendar.seasons[later], after))
                       for later in follows)
        else:
            good = all(any(not runs(calendar.seasons[later], after) or falls(later, after, number)
                           for later in follows) for after in reach)
        if not good:
            return False
    return True


def random_calendar(rng):
    seasons = random_calendar_seasons(rng, rng.randint(1, 4), most_sluices=5)
    return Calendar(seasons, random_follows(rng, len(seasons)))


class FallingTest(unittest.TestCase):
    def test_ordinary(self):
        self.assertEqual(falls_after(YEAR, 0, [0, 0, 1], turns=0), 1)
        self.assertIsNone(falls_after(YEAR, 0, (0, 0, 1)))
        self.assertIsNone(falls_after(calendar=YEAR, index=0, setting=(0, 0, 0), notice=False, turns=0))
        self.assertEqual(fall_table(YEAR, turns=0), ROWS)
        self.assertEqual(fall_table(calendar=YEAR, notice=True, turns=None), ())
        self.assertTrue(only_tuples(fall_table(YEAR, turns=0)))

    def test_several_changes(self):
        # Each season lets one sluice less; the last one lets nothing run.
        valley = Valley(2, [(0, 1)] * 3)
        seasons = [Season(valley, needs=[need, 0]) for need in (0, 1, 2, 4)]
        calendar = Calendar(seasons, [[1], [2], [3], [0]])
        for notice in (True, False):
            self.assertEqual([falls_after(calendar, index, (0, 0, 0), notice=notice) for index in range(3)], [3, 2, 1])
            self.assertEqual([falls_after(calendar, index, (0, 0, 0), notice=notice, turns=0)
                              for index in range(3)], [3, 2, 1])
        self.assertEqual([falls_after(calendar, 0, setting, turns=0)
                          for setting in ((1, 1, 1), (0, 1, 1), (0, 0, 1))], [1, 2, 3])

    def test_notice(self):
        calendar = Calendar([Season(PAIR), Season.only(PAIR, (0, 0)), Season.only(PAIR, (1, 1))], [[1, 2], [], []])
        self.assertEqual(falls_after(calendar, 0, (0, 1), notice=False), 1)
        self.assertIsNone(falls_after(calendar, 0, (0, 1)))
        self.assertEqual(fall_table(calendar, notice=False), tuple((0, setting, 1) for setting in all_settings(PAIR)))
        self.assertEqual(fall_table(calendar, turns=1), ((0, (0, 0), 1), (0, (1, 1), 1)))

    def test_seasons_that_nothing_follows_and_that_follow_themselves(self):
        for follows in ([[]], [[0]], [[0, 0]]):
            for notice in (True, False):
                self.assertEqual(fall_table(Calendar([FIRST], follows), notice=notice, turns=0), ())
                self.assertIsNone(falls_after(Calendar([FIRST], follows), 0, (0, 0, 0), notice=notice))

    def test_not_running(self):
        for turns in (None, 0):
            with self.assertRaises(NotRunning) as caught:
                falls_after(YEAR, 0, [0, 1, 1], turns=turns)
            self.assertEqual(caught.exception.setting, (0, 1, 1))
            self.assertIsInstance(caught.exception, SluiceError)
        nothing = Calendar([Season(RING, needs=[2, 2, 2])], [[0]])
        self.assertEqual(fall_table(nothing), ())

    def test_against_plain_search(self):
        rng = random.Random(1)
        seen = set()
        for _ in range(110):
            calendar = random_calendar(rng)
            for notice in (True, False):
                turns = rng.choice((None, 0, 1, 2, 3))
                plain = plain_falling(calendar, notice, turns)
                rows = fall_table(calendar, notice=notice, turns=turns)
                self.assertEqual(rows, tuple(sorted((*key, number) for key, number in plain.items())))
                self.assertTrue(plain_is_table(calendar, rows, notice, turns))
                for index, season in enumerate(calendar.seasons):
                    running = all_running(season)
                    for setting in rng.sample(running, min(2, len(running))):
                        number = falls_after(calendar, index, setting, notice=notice, turns=turns)
                        self.assertEqual(number, plain.get((index, setting)))
                        self.assertEqual(number is None, lasts(calendar, index, setting, notice=notice, turns=turns))
                        seen.add((notice, number))
        self.assertTrue({(True, None), (False, None), (True, 1), (False, 1), (True, 2), (False, 2)} <= seen)

    def test_ten_sluices(self):
        valley = Valley(2, [(0, 1)] * 10)
        seasons = [Season(valley, needs=[need, 0], limits=[need + 3, None]) for need in (0, 3, 6, 9)]
        calendar = Calendar(seasons, [[1], [2], [3], [0]])
        table = fall_table(calendar, turns=1)
        self.assertEqual(table, fall_table(Calendar.yearly(seasons), turns=1))
        self.assertEqual({row[2] for row in table}, {1, 2})
        self.assertIs(is_fall_table(calendar, table, turns=1), True)
        self.assertIs(is_fall_table(calendar, [row for row in table if row[2] > 1], turns=1), False)


class TableTest(unittest.TestCase):
    def test_ordinary(self):
        self.assertIs(is_fall_table(YEAR, ROWS, turns=0), True)
        self.assertIs(is_fall_table(YEAR, ROWS, turns=1), False)
        self.assertIs(is_fall_table(calendar=YEAR, rows=[[0, [0, 0, 1], 1]], notice=False, turns=0), True)
        self.assertIs(is_fall_table(YEAR, [(0, (0, 0, 1), 7)], turns=0), True)
        self.assertIs(is_fall_table(YEAR, [(0, (0, 0, 0), 7)], turns=0), False)

    def test_without_rows(self):
        for notice in (True, False):
            self.assertIs(is_fall_table(YEAR, (), notice=notice), True)

    def test_rows_exchanged_or_repeated(self):
        self.assertIs(is_fall_table(YEAR, ROWS[::-1] + ROWS, turns=0), True)
        self.assertIs(is_fall_table(YEAR, as_lists(ROWS[::-1]), turns=0), True)
        self.assertIs(is_fall_table(YEAR, [*ROWS, (0, (0, 0, 1), 3)], turns=0), True)

    def test_numbers(self):
        for number in (0, -1):
            self.assertIs(is_fall_table(YEAR, [(0, (0, 0, 1), number)], turns=0), False)
            self.assertIs(is_fall_table(YEAR, [*ROWS, (0, (0, 0, 1), number)], turns=0), False)
        self.assertIs(is_fall_table(YEAR, [(0, (0, 0, 1), 10 ** 40)], turns=0), True)

    def test_the_number_must_be_less(self):
        valley = Valley(2, [(0, 1)] * 3)
        calendar = Calendar([Season(valley, needs=[need, 0]) for need in (0, 1, 4)], [[1], [2], []])
        rows = [(1, setting, 1) for setting in all_running(calendar.seasons[1])]
        for notice in (True, False):
            for number, good in ((1, False), (2, True), (9, True)):
                changed = [*rows, (0, (0, 0, 0), number)]
                self.assertIs(is_fall_table(calendar, changed, notice=notice), good)
            late = [(index, setting, 5) for index, setting, _ in rows]
            self.assertIs(is_fall_table(calendar, [*late, (0, (0, 0, 0), 5)], notice=notice), False)
            self.assertIs(is_fall_table(calendar, [*late, *rows, (0, (0, 0, 0), 5)], notice=notice), True)

    def test_settings_that_do_not_run(self):
        self.assertIs(is_fall_table(YEAR, [(0, (0, 1, 1), 1)], turns=0), False)
        self.assertIs(is_fall_table(YEAR, [*ROWS, (1, (0, 0, 1), 2)], turns=0), False)

    def test_changed_tables_against_the_definition(self):
        rng = random.Random(2)
        verdicts = []
        for _ in range(110):
            calendar = random_calendar(rng)
            notice, turns = rng.random() < 0.5, rng.choice((None, 0, 0, 1, 2))
            rows = [(*key, number) for key, number in plain_falling(calendar, notice, turns).items()]
            for _ in range(5):
                changed = [(index, setting, number + rng.choice((0, 0, 0, 1, 2)))
                           for index, setting, number in rows if rng.random() < 0.9]
                if rng.random() < 0.4:
                    changed.append((rng.randrange(len(calendar)),
                                    rng.choice(all_settings(calendar.seasons[0].valley)), rng.randint(0, 3)))
                rng.shuffle(changed)
                verdicts.append(plain_is_table(calendar, changed, notice, turns))
                same_as(self, is_fall_table(calendar, changed, notice=notice, turns=turns), verdicts[-1])
        self.assertEqual(set(verdicts), {True, False})


if __name__ == "__main__":
    unittest.main()
