"""Point 37: settings that last."""

import random
import unittest

from millsluices.calendars import Calendar
from millsluices.errors import NotRunning, SluiceError
from millsluices.lasting import change_setting, is_lasting_table, lasting, lasts
from millsluices.seasons import Season
from millsluices.valleys import Valley
from plain import (all_running, all_settings, as_lists, ball, can_go_on, only_tuples, plain_falling,
                   random_calendar_seasons, random_follows, runs, same_as)

RING = Valley.ring(3)
FIRST, SECOND = Season(RING, needs=[1, 1, 0]), Season(RING, needs=[0, 1, 1])
YEAR = Calendar.yearly([FIRST, SECOND])
ALL = ((0, 0, 0), (0, 0, 1), (1, 0, 1), (1, 1, 1))
PAIR = Valley(2, [(0, 1), (0, 1)])


def plain_lasting(calendar, notice, turns):
    fallen = plain_falling(calendar, notice, turns)
    return tuple(tuple(setting for setting in all_running(season) if (index, setting) not in fallen)
                 for index, season in enumerate(calendar.seasons))


def plain_is_table(calendar, table, notice, turns):
    return all(runs(calendar.seasons[index], setting) and can_go_on(calendar, index, setting, table, notice, turns)
               for index, members in enumerate(table) for setting in members)


def random_calendar(rng):
    seasons = random_calendar_seasons(rng, rng.randint(1, 4), most_sluices=5)
    return Calendar(seasons, random_follows(rng, len(seasons)))


class LastingTest(unittest.TestCase):
    def test_ordinary(self):
        self.assertEqual(lasting(YEAR), (ALL, tuple(all_running(SECOND))))
        self.assertEqual(lasting(YEAR, turns=0), (((0, 0, 0), (1, 1, 1)),) * 2)
        self.assertIs(lasts(YEAR, 0, [0, 0, 1]), True)
        self.assertIs(lasts(YEAR, 0, (0, 0, 1), turns=0), False)
        self.assertIs(lasts(calendar=YEAR, index=1, setting=(0, 0, 0), notice=True, turns=0), True)

    def test_notice(self):
        # One of two seasons follows; each of them asks for another setting.
        ends = [Season.only(PAIR, (0, 0)), Season.only(PAIR, (1, 1))]
        calendar = Calendar([Season(PAIR), *ends], [[1, 2], [], []])
        self.assertEqual(lasting(calendar)[0], tuple(all_settings(PAIR)))
        self.assertEqual(lasting(calendar, notice=False), ((), ((0, 0),), ((1, 1),)))
        self.assertEqual(lasting(calendar, turns=1)[0], ((0, 1), (1, 0)))
        self.assertIs(lasts(calendar, 0, (0, 1), notice=False), False)
        self.assertIs(lasts(calendar, 0, (0, 1), notice=True), True)

    def test_without_notice_walks_are_made_after_the_change(self):
        year = Calendar([Season(PAIR), Season(PAIR, needs=[1, 1])], [[1], [1]])
        self.assertEqual(lasting(year, notice=False, turns=0), (((0, 1), (1, 0)),) * 2)
        self.assertEqual(lasting(year, notice=False, turns=1), (tuple(all_settings(PAIR)), ((0, 1), (1, 0))))

    def test_season_that_nothing_follows_never_ends(self):
        for notice in (True, False):
            for turns in (None, 0, 3):
                table = lasting(Calendar([FIRST], [[]]), notice=notice, turns=turns)
                self.assertEqual(table, (ALL,))
        nothing = Season(RING, needs=[2, 2, 2])
        self.assertEqual(lasting(Calendar([FIRST, nothing], [[1], [0]])), ((), ()))
        self.assertEqual(lasting(Calendar([FIRST, nothing], [[], [0]])), (ALL, ()))

    def test_season_that_follows_itself(self):
        for notice in (True, False):
            self.assertEqual(lasting(Calendar([FIRST], [[0]]), notice=notice, turns=0), (ALL,))
            self.assertEqual(lasting(Calendar([FIRST], [[0, 0, 0]]), notice=notice), (ALL,))

    def test_repeated_numbers_in_follows(self):
        for notice in (True, False):
            self.assertEqual(lasting(Calendar([FIRST, SECOND], [[1, 1, 1], [0, 0]]), notice=notice, turns=1),
                             lasting(YEAR, notice=notice, turns=1))

    def test_turns(self):
        self.assertEqual(lasting(YEAR, turns=10 ** 50), lasting(YEAR, turns=None))
        self.assertEqual(lasting(YEAR, turns=0, notice=False), lasting(YEAR, turns=0))
        self.assertTrue(only_tuples(lasting(YEAR)))

    def test_walks_stay_in_the_old_season(self):
        # With all mills needing a sluice no walk leads from the one setting to the other.
        rigid = Season(RING, needs=[1, 1, 1])
        calendar = Calendar([rigid, Season.only(RING, (1, 1, 1))], [[1], []])
        self.assertEqual(lasting(calendar), (((1, 1, 1),), ((1, 1, 1),)))

    def test_not_running(self):
        for call in (lambda setting: lasts(YEAR, 0, setting), lambda setting: change_setting(YEAR, 0, setting, 1),
                     lambda setting: lasts(YEAR, 0, setting, notice=False, turns=0)):
            with self.assertRaises(NotRunning) as caught:
                call([0, 1, 1])
            self.assertEqual(caught.exception.setting, (0, 1, 1))
            self.assertIsInstance(caught.exception, SluiceError)
        self.assertIs(lasts(YEAR, 1, (1, 0, 0)), True)

    def test_against_plain_search(self):
        rng = random.Random(1)
        seen = set()
        for _ in range(110):
            calendar = random_calendar(rng)
            for notice in (True, False):
                turns = rng.choice((None, 0, 1, 2, 3))
                plain = plain_lasting(calendar, notice, turns)
                self.assertEqual(lasting(calendar, notice=notice, turns=turns), plain)
                for index, season in enumerate(calendar.seasons):
                    running = all_running(season)
                    for setting in rng.sample(running, min(2, len(running))):
                        same_as(self, lasts(calendar, index, setting, notice=notice, turns=turns),
                                setting in plain[index])
                        seen.add((notice, setting in plain[index]))
        self.assertEqual(len(seen), 4)

    def test_ten_sluices(self):
        valley = Valley(2, [(0, 1)] * 10)
        seasons = [Season(valley, needs=[5, 0]), Season(valley, needs=[0, 5]), Season(valley, needs=[4, 4])]
        for notice in (True, False):
            found = lasting(Calendar(seasons, [[1, 2], [0], [0, 2]]), notice=notice)
            self.assertEqual([len(members) for members in found], [638, 638, 672])
            found = lasting(Calendar.yearly(seasons), notice=notice, turns=0)
            self.assertEqual([len(members) for members in found], [252, 252, 252])


class TableTest(unittest.TestCase):
    def test_ordinary(self):
        self.assertIs(is_lasting_table(YEAR, lasting(YEAR)), True)
        self.assertIs(is_lasting_table(YEAR, lasting(YEAR), turns=0), False)
        self.assertIs(is_lasting_table(calendar=YEAR, table=[[[0, 0, 0]], [(0, 0, 0)]], turns=0), True)
        self.assertIs(is_lasting_table(YEAR, [[(0, 0, 0)], []]), False)
        self.assertIs(is_lasting_table(YEAR, [[(0, 0, 0)], [(1, 1, 1)]]), True)
        self.assertIs(is_lasting_table(YEAR, [[(0, 0, 0)], [(1, 1, 1)]], turns=2), False)

    def test_no_setting_stands_in_it(self):
        for notice in (True, False):
            self.assertIs(is_lasting_table(YEAR, ((), ()), notice=notice, turns=0), True)
            self.assertIs(is_lasting_table(Calendar([Season(RING, needs=[2, 2, 2])], [[0]]), [[]], notice=notice), True)

    def test_settings_exchanged_or_repeated(self):
        table = [list(members[::-1]) + list(members) for members in lasting(YEAR)]
        self.assertIs(is_lasting_table(YEAR, table), True)
        self.assertIs(is_lasting_table(YEAR, as_lists(table), notice=False), True)

    def test_settings_that_do_not_run(self):
        for table in ([[(0, 1, 1)], []], [[*ALL, (0, 1, 1)], lasting(YEAR)[1]], [ALL, [*lasting(YEAR)[1], (1, 0, 1)]]):
            self.assertIs(is_lasting_table(YEAR, table), False)
        self.assertIs(is_lasting_table(Calendar([FIRST], [[]]), [[(0, 1, 1)]]), False)
        # The later season has the setting, which does not run there, in its table.
        calendar = Calendar([FIRST, SECOND], [[1], []])
        self.assertIs(is_lasting_table(calendar, [[(0, 0, 1)], [(0, 0, 1)]], turns=0), False)

    def test_changed_tables_against_the_definition(self):
        rng = random.Random(2)
        verdicts = []
        for _ in range(110):
            calendar = random_calendar(rng)
            notice, turns = rng.random() < 0.5, rng.choice((None, 0, 1, 2))
            table = [list(members) for members in plain_lasting(calendar, notice, turns)]
            same_as(self, is_lasting_table(calendar, table, notice=notice, turns=turns), True)
            for _ in range(4):
                changed = [[setting for setting in members if rng.random() < 0.7] for members in table]
                if rng.random() < 0.3:
                    changed[rng.randrange(len(changed))].append(rng.choice(all_settings(calendar.seasons[0].valley)))
                verdicts.append(plain_is_table(calendar, changed, notice, turns))
                same_as(self, is_lasting_table(calendar, changed, notice=notice, turns=turns), verdicts[-1])
        self.assertEqual(set(verdicts), {True, False})


class ChangeTest(unittest.TestCase):
    def test_ordinary(self):
        self.assertEqual(change_setting(YEAR, 0, (0, 0, 1), 1), (0, 0, 0))
        self.assertEqual(change_setting(YEAR, 0, [1, 0, 1], 1, turns=1), (1, 1, 1))
        self.assertIsNone(change_setting(calendar=YEAR, index=0, setting=(0, 0, 1), later=1, turns=0))
        self.assertEqual(change_setting(YEAR, 1, (0, 0, 0), 0, turns=0), (0, 0, 0))
        self.assertTrue(only_tuples(change_setting(YEAR, 0, [0, 0, 1], 1)))

    def test_whether_the_setting_itself_lasts_or_not(self):
        # The third season can never be begun, so the first does not last; the second can follow all the same.
        calendar = Calendar([FIRST, SECOND, Season(RING, needs=[2, 2, 2])], [[1, 2], [], []])
        self.assertIs(lasts(calendar, 0, (0, 0, 0)), False)
        self.assertEqual(change_setting(calendar, 0, (0, 0, 1), 1), (0, 0, 0))
        self.assertIsNone(change_setting(calendar, 0, (0, 0, 0), 2))

    def test_against_plain_search(self):
        rng = random.Random(3)
        found = []
        for _ in range(110):
            calendar = random_calendar(rng)
            turns = rng.choice((None, 0, 1, 2))
            plain = plain_lasting(calendar, True, turns)
            for index, season in enumerate(calendar.seasons):
                running = all_running(season)
                for later in calendar.follows[index]:
                    for setting in rng.sample(running, min(2, len(running))):
                        good = sorted(ball(season, setting, turns) & set(plain[later]))
                        answer = change_setting(calendar, index, setting, later, turns=turns)
                        self.assertEqual(answer, good[0] if good else None)
                        found.append(answer is None)
        self.assertEqual(set(found), {True, False})


if __name__ == "__main__":
    unittest.main()
