"""Point 41: settings that hold, and hold tables."""

import random
import unittest

from millsluices.errors import NotRunning, SluiceError
from millsluices.holding import hold_table, holding, holds, is_hold_table
from millsluices.nights import braced
from millsluices.seasons import Season
from millsluices.valleys import Valley
from plain import (all_running, all_settings, as_lists, ball, dense_seasons, only_tuples, plain_days, plain_nights,
                   plain_storm, random_foes, random_seasons, runs, same_as)

WIDE = Season(Valley.ring(3).built([(0, 1)]), needs=[1, 1, 1])
ZERO = (0, 0, 0, 0)
ROWS = ((ZERO, ZERO), ((1, 0, 0, 0), (1, 0, 0, 0)))
# Each day one of the two sluices of the miller must answer what the foe did to the third one.
THREE = Season(Valley(2, [(0, 1)] * 3), needs=[1, 1])


def plain_is_table(season, setting, foes, rows, most, turns, shared):
    """The conditions of a hold table, word for word."""
    mornings = {tuple(morning) for morning, _ in rows}
    if setting not in mornings:
        return False
    for morning, evening in rows:
        if not runs(season, morning) or evening not in plain_days(season, morning, foes, turns, shared):
            return False
        if not all(runs(season, after) and after in mornings for after in plain_nights(evening, foes, most)):
            return False
    return True


class HoldingTest(unittest.TestCase):
    def test_ordinary(self):
        self.assertEqual(holding(THREE, [0]), tuple(all_running(THREE)))
        self.assertEqual(holding(THREE, [0], turns=0), ((0, 0, 1), (0, 1, 0), (1, 0, 1), (1, 1, 0)))
        self.assertIs(holds(THREE, [0, 1, 1], [0]), True)
        self.assertIs(holds(season=THREE, setting=(0, 1, 1), foes=[0], most=1, turns=0, shared=False), False)
        self.assertTrue(only_tuples(holding(THREE, [0])))

    def test_no_foes(self):
        for turns in (None, 0, 2):
            self.assertEqual(holding(WIDE, (), turns=turns), tuple(all_running(WIDE)))
            self.assertEqual(hold_table(WIDE, ZERO, [], turns=turns), ((ZERO, min(ball(WIDE, ZERO, turns))),))

    def test_all_unset_sluices_are_the_foes(self):
        # Then the miller turns nothing, unless the sluices are shared.
        free = Season(Valley(2, [(0, 1)] * 3))
        self.assertEqual(holding(free, [0, 1, 2], most=3), tuple(all_settings(free.valley)))
        for turns in (None, 0, 5):
            self.assertEqual(holding(THREE, [0, 1, 2], turns=turns), ())
            self.assertIsNone(hold_table(THREE, (0, 0, 1), [0, 1, 2], turns=turns))
        self.assertEqual(holding(THREE, [0, 1, 2], most=0), tuple(all_running(THREE)))

    def test_shared(self):
        season = Season(Valley(2, [(0, 1)] * 4), needs=[1, 1])
        self.assertEqual(holding(season, [0, 1, 2, 3]), ())
        self.assertEqual(holding(season, [0, 1, 2, 3], shared=True), tuple(all_running(season)))
        self.assertEqual(holding(season, [0, 1, 2, 3], shared=True, turns=1), tuple(all_running(season)))
        self.assertEqual(holding(season, [0, 1, 2, 3], shared=True, turns=0), ())
        self.assertEqual(holding(season, [0, 1, 2, 3], shared=True, most=2), ())
        self.assertIs(holds(season, (0, 0, 0, 1), [0, 1, 2, 3], shared=True), True)
        self.assertIs(holds(season, (0, 0, 0, 1), [0, 1, 2, 3], shared=False), False)

    def test_most(self):
        self.assertEqual(holding(THREE, [0], most=10), holding(THREE, [0]))
        self.assertEqual(holding(THREE, [0, 1], most=0), tuple(all_running(THREE)))
        season = Season(Valley(2, [(0, 1)] * 5), needs=[1, 1])
        self.assertTrue(holds(season, (0, 0, 0, 0, 1), [0, 1], most=2))
        self.assertFalse(holds(season, (0, 0, 0, 0, 1), [0, 1, 2, 3], most=2))

    def test_nothing_runs(self):
        nothing = Season(Valley.ring(3), needs=[2, 2, 2])
        self.assertEqual(holding(nothing, [0]), ())
        with self.assertRaises(NotRunning):
            holds(nothing, (0, 0, 0), [])

    def test_not_running(self):
        for call in (holds, hold_table, lambda *args: is_hold_table(*args, []),
                     lambda *args: is_hold_table(*args, ROWS)):
            with self.assertRaises(NotRunning) as caught:
                call(WIDE, [0, 1, 1, 0], [0])
            self.assertEqual(caught.exception.setting, (0, 1, 1, 0))
            self.assertIsInstance(caught.exception, SluiceError)

    def test_against_plain_search(self):
        rng = random.Random(1)
        verdicts = set()
        for season in random_seasons(2, 90) + dense_seasons(3, 25, sluices=6):
            foes, most = random_foes(rng, season), rng.choice((0, 1, 1, 2, 10))
            turns, shared = rng.choice((None, 0, 1, 2)), rng.random() < 0.4
            named = {"most": most, "turns": turns, "shared": shared}
            plain = all_running(season)
            fallen = plain_storm(season, foes, most, turns, shared)
            self.assertEqual(holding(season, foes, **named), tuple(row for row in plain if row not in fallen))
            for setting in rng.sample(plain, min(3, len(plain))):
                good = setting not in fallen
                verdicts.add((good, shared))
                same_as(self, holds(season, setting, foes, **named), good)
                rows = hold_table(season, setting, foes, **named)
                self.assertEqual(rows is not None, good)
                if good:
                    self.assertTrue(only_tuples(rows))
                    self.assertTrue(plain_is_table(season, setting, foes, rows, most, turns, shared))
                    self.assertIs(is_hold_table(season, setting, foes, rows, **named), True)
                if shared and turns is None:
                    members = ball(season, setting)
                    self.assertEqual(good, any(braced(season, after, foes, most=most) for after in members))
        self.assertEqual(len(verdicts), 4)

    def test_ten_sluices(self):
        season = Season(Valley(2, [(0, 1)] * 10), needs=[2, 2])
        foes = list(range(5))
        self.assertEqual(len(holding(season, foes, turns=1)), 1002)
        self.assertEqual(len(holding(season, foes, turns=0, most=5)), 640)
        setting = (0,) * 8 + (1,) * 2
        rows = hold_table(season, setting, foes, most=2)
        self.assertIs(is_hold_table(season, setting, foes, rows, most=2), True)


class TableTest(unittest.TestCase):
    def test_ordinary(self):
        self.assertIs(is_hold_table(WIDE, ZERO, [0], ROWS, turns=0), True)
        self.assertIs(is_hold_table(season=WIDE, setting=[0, 0, 0, 0], foes=(0, 0), rows=as_lists(ROWS), most=1,
                                    turns=None, shared=True), True)
        self.assertIs(is_hold_table(WIDE, (1, 0, 0, 0), [0], ROWS), True)
        self.assertIs(is_hold_table(WIDE, ZERO, [0], ROWS[:1], turns=0), False)
        self.assertIs(is_hold_table(WIDE, ZERO, [0, 3], ROWS, turns=0), False)

    def test_without_rows(self):
        self.assertIs(is_hold_table(WIDE, ZERO, [], ()), False)
        self.assertIs(is_hold_table(WIDE, ZERO, [], [(ZERO, ZERO)]), True)

    def test_rows_exchanged_or_repeated(self):
        self.assertIs(is_hold_table(WIDE, ZERO, [0], ROWS[::-1] + ROWS, turns=0), True)
        self.assertIs(is_hold_table(WIDE, (0, 0, 0, 1), [0], ROWS, turns=0), False)

    def test_conditions_hold_for_every_row(self):
        bad = (0, 1, 1, 0)
        for row in ((bad, bad), (bad, ZERO), (ZERO, bad), ((0, 0, 0, 1), (0, 0, 0, 1)), (ZERO, (0, 0, 0, 1)),
                    ((0, 0, 0, 1), bad)):
            self.assertIs(is_hold_table(WIDE, ZERO, [0], [*ROWS, row]), False)
        self.assertIs(is_hold_table(WIDE, ZERO, [0], [*ROWS, ((0, 0, 0, 1), ZERO)]), True)
        self.assertIs(is_hold_table(WIDE, ZERO, [0], [*ROWS, ((0, 0, 0, 1), ZERO)], turns=0), False)

    def test_sluices_of_the_foe_are_turned_by_the_miller_only_if_they_are_shared(self):
        rows = [(ZERO, ZERO), ((1, 0, 0, 0), ZERO)]
        self.assertIs(is_hold_table(WIDE, ZERO, [0], rows, shared=True), True)
        self.assertIs(is_hold_table(WIDE, ZERO, [0], rows, shared=True, turns=0), False)
        self.assertIs(is_hold_table(WIDE, ZERO, [0], rows), False)

    def test_changed_tables_against_the_definition(self):
        rng = random.Random(4)
        verdicts = []
        for season in random_seasons(5, 120) + dense_seasons(6, 25, sluices=5):
            foes, most = random_foes(rng, season), rng.choice((0, 1, 1, 2))
            turns, shared = rng.choice((None, 0, 1)), rng.random() < 0.4
            named = {"most": most, "turns": turns, "shared": shared}
            for setting in holding(season, foes, **named)[:2]:
                rows = list(hold_table(season, setting, foes, **named))
                for _ in range(6):
                    changed = list(rows)
                    at = rng.randrange(len(rows))
                    change = rng.randrange(4)
                    if change == 0:
                        changed.pop(at)
                    elif change == 1:
                        changed[at] = (rows[at][0], rng.choice(all_settings(season.valley)))
                    elif change == 2:
                        changed.append((rng.choice(all_settings(season.valley)), rows[at][1]))
                    rng.shuffle(changed)
                    verdicts.append(plain_is_table(season, setting, foes, changed, most, turns, shared))
                    same_as(self, is_hold_table(season, setting, foes, changed, **named), verdicts[-1])
        self.assertEqual(set(verdicts), {True, False})


if __name__ == "__main__":
    unittest.main()
