"""Point 39: a known row of seasons."""

import itertools
import random
import unittest

from millsluices.errors import NotRunning, SluiceError, ValleysDiffer
from millsluices.seasons import Season
from millsluices.timetables import Timetable, is_timetable, timetable
from millsluices.valleys import Valley
from plain import all_running, all_settings, ball, only_tuples, random_calendar_seasons, runs, same_as

RING = Valley.ring(3)
DAYS = [Season(RING, needs=[1, 1, 0]), Season(RING, needs=[0, 1, 1]), Season(RING, needs=[0, 0, 2])]
CHANGES = ((1, 1, 1), (1, 1, 0))


def plain_is_timetable(seasons, setting, changes, turns):
    if not runs(seasons[0], setting) or len(changes) != len(seasons) - 1:
        return False
    for day, after in enumerate(changes):
        if not (runs(seasons[day], after) and runs(seasons[day + 1], after)
                and after in ball(seasons[day], setting, turns)):
            return False
        setting = after
    return True


def all_changes(seasons, setting, turns):
    """All changes, ascending, by a plain search from one season to the next."""
    rows = [()]
    for day in range(len(seasons) - 1):
        rows = [(*row, after) for row in rows
                for after in sorted(ball(seasons[day], row[-1] if row else setting, turns))
                if runs(seasons[day + 1], after)]
    return rows


class TimetableTest(unittest.TestCase):
    def found(self, seasons, setting, **named):
        answer = timetable(seasons, setting, **named)
        self.assertIsInstance(answer, Timetable)
        self.assertIs(type(answer.kept), bool)
        self.assertTrue(only_tuples(answer.changes))
        return answer.kept, answer.changes, answer.day

    def test_ordinary(self):
        self.assertEqual(self.found(DAYS, (1, 0, 1), turns=1), (True, CHANGES, None))
        self.assertEqual(self.found(DAYS, [1, 0, 1], turns=0), (False, (), 1))
        self.assertEqual(self.found(tuple(DAYS), (1, 0, 1)), (True, ((0, 0, 0), (1, 1, 0)), None))
        self.assertEqual(self.found(seasons=DAYS, setting=(0, 0, 0), turns=0), (False, (), 2))

    def test_one_season_alone(self):
        for turns in (None, 0, 1):
            self.assertEqual(self.found([DAYS[0]], [0, 0, 1], turns=turns), (True, (), None))

    def test_first_changes_are_found_although_the_first_steps_lead_nowhere(self):
        pair = Valley(2, [(0, 1), (0, 1)])
        seasons = [Season(pair), Season(pair), Season.only(pair, (1, 1))]
        self.assertEqual(self.found(seasons, (0, 0), turns=1), (True, ((0, 1), (1, 1)), None))
        self.assertEqual(self.found(seasons, (0, 0), turns=2), (True, ((0, 0), (1, 1)), None))
        self.assertEqual(self.found(seasons, (0, 0), turns=0), (False, (), 2))

    def test_a_walk_in_the_last_season_is_of_no_use(self):
        rigid = Season(RING, needs=[1, 1, 1])
        self.assertEqual(self.found([rigid, DAYS[0]], (0, 0, 0)), (True, ((0, 0, 0),), None))
        self.assertEqual(self.found([rigid, Season.only(RING, (1, 1, 1))], (0, 0, 0)), (False, (), 1))

    def test_day_is_the_first_season_that_cannot_be_begun(self):
        never = Season(RING, needs=[2, 2, 2])
        for day in range(1, 8):
            seasons = [DAYS[0]] * day + [never] * 1 + [DAYS[0]] * (7 - day)
            self.assertEqual(self.found(seasons, (0, 0, 0)), (False, (), day))

    def test_large_turns(self):
        self.assertEqual(self.found(DAYS, (1, 0, 1), turns=10 ** 40), self.found(DAYS, (1, 0, 1)))

    def test_arguments_are_left_as_they_were(self):
        seasons, setting = list(DAYS), [1, 0, 1]
        answer = timetable(seasons, setting, turns=1)
        seasons.clear()
        setting.append(1)
        self.assertEqual((answer.kept, answer.changes, answer.day), (True, CHANGES, None))

    def test_errors_and_their_order(self):
        other = Season(Valley.ring(4))
        for setting in ((0, 0, 0), (0, 1, 1)):
            for seasons in ([DAYS[0], other], [DAYS[0], DAYS[1], other]):
                with self.assertRaises(ValleysDiffer) as caught:
                    timetable(seasons, setting)
                self.assertIsInstance(caught.exception, SluiceError)
        for seasons in (DAYS, DAYS[:1]):
            with self.assertRaises(NotRunning) as caught:
                timetable(seasons, [0, 1, 1], turns=0)
            self.assertEqual(caught.exception.setting, (0, 1, 1))
            self.assertIsInstance(caught.exception, SluiceError)

    def test_against_plain_search(self):
        rng = random.Random(1)
        seen = set()
        for _ in range(250):
            seasons = random_calendar_seasons(rng, rng.randint(1, 4), most_sluices=4)
            turns = rng.choice((None, 0, 1, 1, 2))
            running = all_running(seasons[0])
            for setting in rng.sample(running, min(2, len(running))):
                plain = all_changes(seasons, setting, turns)
                if plain:
                    expected = (True, min(plain), None)
                else:
                    day = next(day for day in range(1, len(seasons))
                               if not all_changes(seasons[:day + 1], setting, turns))
                    expected = (False, (), day)
                self.assertEqual(self.found(seasons, setting, turns=turns), expected)
                seen.add(expected[2])
        self.assertEqual(seen, {None, 1, 2, 3})

    def test_ten_sluices(self):
        valley = Valley(2, [(0, 1)] * 10)
        seasons = [Season(valley, needs=[need, 0]) for need in range(8)]
        kept, changes, _ = self.found(seasons, (1,) * 10, turns=1)
        self.assertEqual((kept, len(changes), changes[-1]), (True, 7, (0,) * 7 + (1,) * 3))
        self.assertEqual(self.found(seasons[::2], (1,) * 10, turns=1), (False, (), 1))


class IsTimetableTest(unittest.TestCase):
    def test_ordinary(self):
        self.assertIs(is_timetable(DAYS, (1, 0, 1), CHANGES, turns=1), True)
        self.assertIs(is_timetable(DAYS, [1, 0, 1], [[1, 1, 1], [1, 1, 0]], turns=1), True)
        self.assertIs(is_timetable(seasons=DAYS, setting=(1, 0, 1), changes=CHANGES, turns=0), False)
        self.assertIs(is_timetable(DAYS, (1, 0, 1), CHANGES), True)

    def test_number_of_settings(self):
        for changes in ((), CHANGES[:1], (*CHANGES, (1, 1, 0)), CHANGES * 5):
            self.assertIs(is_timetable(DAYS, (1, 0, 1), changes), False)
        self.assertIs(is_timetable(DAYS[:1], (1, 0, 1), ()), True)
        self.assertIs(is_timetable(DAYS[:1], (1, 0, 1), [(1, 0, 1)]), False)

    def test_settings_that_do_not_run(self):
        self.assertIs(is_timetable(DAYS, [0, 1, 1], CHANGES), False)
        self.assertIs(is_timetable(DAYS[:1], [0, 1, 1], ()), False)
        self.assertIs(is_timetable(DAYS, (1, 0, 1), [(1, 0, 1), (1, 1, 0)]), False)
        self.assertIs(is_timetable(DAYS, (1, 0, 1), [(1, 1, 1), (1, 1, 1)]), False)

    def test_against_plain_search(self):
        rng = random.Random(2)
        verdicts = []
        for _ in range(120):
            seasons = random_calendar_seasons(rng, rng.randint(1, 3), most_sluices=3)
            turns = rng.choice((None, 0, 1))
            settings = all_settings(seasons[0].valley)
            rows = list(itertools.product(settings, repeat=len(seasons) - 1))
            for setting in rng.sample(settings, min(3, len(settings))):
                for changes in rng.sample(rows, min(20, len(rows))):
                    verdicts.append(plain_is_timetable(seasons, setting, changes, turns))
                    same_as(self, is_timetable(seasons, setting, changes, turns=turns), verdicts[-1])
        self.assertEqual(set(verdicts), {True, False})


if __name__ == "__main__":
    unittest.main()
