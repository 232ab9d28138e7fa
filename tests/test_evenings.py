"""Point 35: jams one by one, and evening tables."""

import random
import unittest

from millsluices.errors import NotRunning, SluiceError, ValleysDiffer
from millsluices.evenings import evening_table, is_evening_table, withstands
from millsluices.jams import jam_strength
from millsluices.seasons import Season
from millsluices.valleys import Valley
from plain import (all_running, as_lists, dense_seasons, jammed_ball, only_tuples, random_seasons, random_wishes, runs,
                   same_as, unset_sluices)

RING = Valley.ring(3)
WIDE = Season(RING.built([(0, 1)]), needs=[1, 1, 1])
WISH = Season(WIDE.valley, needs=[1, 2, 1])
ZERO = (0, 0, 0, 0)
GOOD = (0, 0, 0, 1)
# In the evening the wish is met, and no jam can undo this.
ROWS = [((), ZERO, GOOD)] + [((sluice,), GOOD, GOOD) for sluice in range(4)]


def contented(season, wishes, jam, morning):
    reach = jammed_ball(season, morning, jam)
    return all(any(runs(wish, after) for after in reach) for wish in wishes)


def plain_withstands(season, wishes, setting, most):
    known = {}

    def going_on(jam, morning):
        if (jam, morning) not in known:
            known[jam, morning] = contented(season, wishes, jam, morning) and (len(jam) >= most or any(
                all(going_on(tuple(sorted((*jam, sluice))), evening)
                    for sluice in unset_sluices(season) if sluice not in jam)
                for evening in jammed_ball(season, morning, jam)))
        return known[jam, morning]

    return going_on((), setting)


def plain_is_table(season, wishes, setting, rows, most):
    mornings = [(jam, morning) for jam, morning, _ in rows]
    if ((), setting) not in mornings:
        return False
    for jam, morning, evening in rows:
        unset = unset_sluices(season)
        if list(jam) != sorted(set(jam)) or len(jam) > most or not set(jam) <= set(unset):
            return False
        if not runs(season, morning) or not contented(season, wishes, jam, morning):
            return False
        if evening not in jammed_ball(season, morning, jam):
            return False
        if len(jam) < most and not all((tuple(sorted((*jam, sluice))), evening) in mornings
                                       for sluice in unset if sluice not in jam):
            return False
    return True


class EveningTest(unittest.TestCase):
    def test_ordinary(self):
        self.assertIs(is_evening_table(WIDE, [WISH], ZERO, ROWS, most=1), True)
        self.assertIs(withstands(WIDE, [WISH], ZERO, most=1), True)
        self.assertIs(withstands(WIDE, [WISH], ZERO, most=4), True)
        self.assertIs(withstands(WIDE, [Season(WIDE.valley, needs=[2, 2, 1])], ZERO, most=0), False)

    def test_no_jams(self):
        self.assertIs(withstands(WIDE, [WISH], [0, 0, 0, 0], most=0), True)
        table = evening_table(WIDE, [WISH], ZERO, most=0)
        self.assertEqual([row[:2] for row in table], [((), ZERO)])
        self.assertIs(is_evening_table(WIDE, [WISH], ZERO, [((), ZERO, GOOD)], most=0), True)
        self.assertIs(is_evening_table(WIDE, [WISH], ZERO, [((), ZERO, GOOD)], most=1), False)

    def test_no_wishes(self):
        self.assertIs(withstands(WIDE, (), ZERO, most=10), True)
        self.assertIs(is_evening_table(WIDE, (), ZERO, evening_table(WIDE, (), ZERO, most=10), most=10), True)

    def test_withstanding_less_than_surviving_at_once(self):
        # One jam can be awaited in the middle, although not every setting survives it.
        season = Season(Valley(2, [(0, 1)] * 3))
        wishes = [Season(season.valley, needs=[1, 0]), Season(season.valley, needs=[0, 1])]
        self.assertEqual(jam_strength(season, wishes, (0, 0, 0)), 2)
        wish = [Season(season.valley, needs=[1, 2])]
        self.assertEqual(jam_strength(season, wish, (0, 0, 0)), 1)
        self.assertIs(withstands(season, wish, (0, 0, 0), most=3), True)

    def test_most_is_more_than_there_are_unset_sluices(self):
        season = Season(Valley(2, [(0, 1)] * 2), sides=[(0, 1), (0,)])
        wish = Season(season.valley, needs=[1, 0])
        table = evening_table(season, [wish], (1, 0), most=10)
        self.assertEqual([row[0] for row in table], [(), (0,)])
        self.assertIs(is_evening_table(season, [wish], (1, 0), table, most=10), True)

    def test_tables_without_rows_and_with_other_rows(self):
        rows = ROWS
        same = {"season": WIDE, "wishes": [WISH], "setting": ZERO, "most": 1}
        self.assertIs(is_evening_table(rows=[], **same), False)
        self.assertIs(is_evening_table(rows=rows[::-1] + rows, **same), True)
        self.assertIs(is_evening_table(rows=as_lists(rows), **same), True)
        self.assertIs(is_evening_table(rows=rows[1:], **same), False)
        self.assertIs(is_evening_table(WIDE, [WISH], GOOD, rows, most=1), False)
        self.assertIs(is_evening_table(WIDE, [WISH], GOOD, [*rows, ((), GOOD, GOOD)], most=1), True)

    def test_conditions_hold_for_every_row(self):
        for more, good in ((((), GOOD, GOOD), True), (((0,), ZERO, ZERO), True), (((), (0, 1, 1, 0), GOOD), False),
                           (((), (0, 1, 1, 0), (0, 1, 1, 0)), False), (((0,), GOOD, (0, 1, 1, 0)), False),
                           (((0,), GOOD, (1, 1, 1, 1)), False), (((0, 1), GOOD, GOOD), False),
                           (((), ZERO, ZERO), False), (((3,), GOOD, ZERO), False)):
            self.assertIs(is_evening_table(WIDE, [WISH], ZERO, [*ROWS, more], most=1), good)

    def test_jams_that_are_not_ascending(self):
        full = evening_table(WIDE, [WISH], ZERO, most=2)
        self.assertIs(is_evening_table(WIDE, [WISH], ZERO, full, most=2), True)
        for jam in ((1, 0), (0, 0), [3, 2]):
            self.assertIs(is_evening_table(WIDE, [WISH], ZERO, [*full, (jam, GOOD, GOOD)], most=2), False)

    def test_jams_with_set_sluices(self):
        season = Season(Valley(2, [(0, 1)] * 2), sides=[(0, 1), (0,)])
        rows = [((), (0, 0), (0, 0)), ((0,), (0, 0), (0, 0))]
        self.assertIs(is_evening_table(season, [], (0, 0), rows, most=1), True)
        self.assertIs(is_evening_table(season, [], (0, 0), [*rows, ((1,), (0, 0), (0, 0))], most=1), False)

    def test_errors_and_their_order(self):
        other = Season(Valley.ring(4))
        for call in (lambda wishes, setting: withstands(WIDE, wishes, setting, most=1),
                     lambda wishes, setting: evening_table(WIDE, wishes, setting, most=1),
                     lambda wishes, setting: is_evening_table(WIDE, wishes, setting, [], most=1)):
            with self.assertRaises(ValleysDiffer) as caught:
                call([WISH, other], (0, 1, 1, 0))
            self.assertIsInstance(caught.exception, SluiceError)
            with self.assertRaises(NotRunning) as caught:
                call([WISH], [0, 1, 1, 0])
            self.assertEqual(caught.exception.setting, (0, 1, 1, 0))

    def test_against_plain_search(self):
        rng = random.Random(1)
        found, verdicts = [], []
        for season in random_seasons(2, 60) + dense_seasons(3, 20, sluices=5):
            plain = all_running(season)
            for setting in rng.sample(plain, min(2, len(plain))):
                wishes = random_wishes(rng, season, rng.randint(1, 3))
                most = rng.choice((0, 1, 2, 3, 10))
                found.append(plain_withstands(season, wishes, setting, most))
                same_as(self, withstands(season, wishes, setting, most=most), found[-1])
                rows = evening_table(season, wishes, setting, most=most)
                self.assertEqual(rows is not None, found[-1])
                if rows is not None:
                    self.assertTrue(only_tuples(rows))
                    self.assertIs(is_evening_table(season, wishes, setting, rows, most=most), True)
                    self.assertTrue(plain_is_table(season, wishes, setting, rows, most))
                for changed in mutants(rng, plain, rows or [((), setting, setting)]):
                    verdicts.append(plain_is_table(season, wishes, setting, changed, most))
                    same_as(self, is_evening_table(season, wishes, setting, changed, most=most), verdicts[-1])
        self.assertEqual((set(found), set(verdicts)), ({True, False}, {True, False}))


def mutants(rng, plain, rows):
    """The rows without one of them, and with other mornings, evenings and jams."""
    rows = list(rows)
    at = rng.randrange(len(rows))
    jam, morning, evening = rows[at]
    yield rows[:at] + rows[at + 1:]
    yield rows + [(jam, rng.choice(plain), evening)]
    yield rows + [(jam, morning, rng.choice(plain))]
    yield rows[:at] + [(jam, morning, rng.choice(plain))] + rows[at + 1:]
    yield rows + [(tuple(rng.randrange(3) for _ in range(rng.randint(1, 2))), morning, evening)
                  for _ in range(min(1, len(morning) // 3))]


if __name__ == "__main__":
    unittest.main()
