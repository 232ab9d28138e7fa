"""Point 35: attack tables."""

import random
import unittest

from millsluices.attacks import attack_table, is_attack_table
from millsluices.errors import NotRunning, SluiceError, ValleysDiffer
from millsluices.evenings import evening_table, withstands
from millsluices.seasons import Season
from millsluices.valleys import Valley
from plain import (all_running, as_lists, dense_seasons, jammed_ball, only_tuples, random_seasons, random_wishes, runs,
                   same_as, unset_sluices)

RING = Valley.ring(3)
WIDE = Season(RING.built([(0, 1)]), needs=[1, 1, 1])
WISH = Season(WIDE.valley, needs=[1, 2, 1])
ZERO = (0, 0, 0, 0)
PAIR = Season(Valley(2, [(0, 1), (0, 1)]))
WISHES = [Season(PAIR.valley, needs=[2, 0]), Season(PAIR.valley, needs=[0, 2])]


def plain_is_table(season, wishes, setting, rows, most):
    rows = set(rows)

    def lost(jam, morning):
        reach = jammed_ball(season, morning, jam)
        if not all(any(runs(wish, after) for after in reach) for wish in wishes):
            return True
        choice = [sluice for sluice in unset_sluices(season) if sluice not in jam]
        return len(jam) < most and all(
            any((jam, evening, sluice) in rows and lost(tuple(sorted((*jam, sluice))), evening) for sluice in choice)
            for evening in reach)

    return lost((), setting)


class AttackTest(unittest.TestCase):
    def test_ordinary(self):
        rows = [((), evening, 0) for evening in all_running(PAIR)]
        self.assertIs(is_attack_table(PAIR, WISHES, (0, 1), rows, most=1), True)
        self.assertIs(is_attack_table(PAIR, WISHES, (0, 1), rows[1:], most=1), False)
        self.assertIs(is_attack_table(PAIR, WISHES, (0, 1), rows, most=0), False)
        self.assertIs(is_attack_table(PAIR, WISHES, (0, 1), attack_table(PAIR, WISHES, (0, 1), most=1), most=1), True)
        self.assertIsNone(attack_table(PAIR, WISHES, (0, 1), most=0))
        self.assertIsNone(attack_table(WIDE, [WISH], ZERO, most=4))

    def test_table_without_rows(self):
        far = Season(WIDE.valley, needs=[2, 2, 1])
        self.assertIs(is_attack_table(WIDE, [far], ZERO, [], most=0), True)
        self.assertIs(is_attack_table(WIDE, [WISH, far], [0, 0, 0, 0], (), most=3), True)
        self.assertIs(is_attack_table(WIDE, [WISH], ZERO, [], most=3), False)
        self.assertIs(is_attack_table(WIDE, [], ZERO, [], most=3), False)
        self.assertEqual(attack_table(WIDE, [far], ZERO, most=2), ())

    def test_rows_exchanged_repeated_and_not_needed(self):
        rows = attack_table(season=PAIR, wishes=WISHES, setting=(0, 1), most=2)
        self.assertTrue(only_tuples(rows))
        same = {"season": PAIR, "wishes": WISHES, "setting": (0, 1), "most": 2}
        self.assertIs(is_attack_table(rows=rows[::-1] + rows, **same), True)
        self.assertIs(is_attack_table(rows=as_lists(rows), **same), True)
        self.assertIs(is_attack_table(rows=[*rows, *as_lists(rows)], **same), True)
        more = [((0, 1), (0, 0), 0), ((0,), (0, 0), 0), ((), (0, 0), 1)]
        self.assertIs(is_attack_table(rows=[*more, *rows], **same), True)

    def test_sluices_that_cannot_jam(self):
        rows = [((), evening, sluice) for evening in all_running(PAIR) for sluice in (0, 1)]
        shut = Season(PAIR.valley, sides=[(0, 1), (0,)])
        wishes = [Season(PAIR.valley, needs=[2, 0]), Season(PAIR.valley, needs=[1, 1])]
        self.assertIs(is_attack_table(shut, wishes, (0, 0), [row for row in rows if row[2] == 1], most=2), False)
        self.assertIs(is_attack_table(shut, wishes, (0, 0), [row for row in rows if row[2] == 0], most=2), True)
        self.assertIs(is_attack_table(shut, wishes, (0, 0), [((1,), (0, 0), 0)], most=2), False)

    def test_several_nights(self):
        season = Season(Valley(2, [(0, 1)] * 4))
        wishes = [Season(season.valley, needs=[2, 0]), Season(season.valley, needs=[0, 4])]
        same = {"season": season, "wishes": wishes, "setting": (0,) * 4}
        self.assertIs(withstands(most=2, **same), True)
        self.assertIsNone(attack_table(most=2, **same))
        rows = attack_table(most=3, **same)
        self.assertIs(is_attack_table(rows=rows, most=3, **same), True)
        self.assertIs(is_attack_table(rows=rows, most=2, **same), False)
        self.assertEqual({len(row[0]) for row in rows}, {0, 1, 2})
        for size in range(3):
            self.assertIs(is_attack_table(rows=[row for row in rows if len(row[0]) != size], most=3, **same), False)

    def test_jams_in_another_order(self):
        # The first jam is that of the last sluice, so a larger jam may stand before a smaller one in the order.
        season = Season(Valley(2, [(0, 1)] * 4))
        wishes = [Season(season.valley, needs=[2, 0]), Season(season.valley, needs=[0, 4])]
        rows = [(tuple(sorted(3 - number for number in jam)), evening[::-1], 3 - sluice)
                for jam, evening, sluice in attack_table(season, wishes, (0,) * 4, most=3)]
        self.assertTrue({((), 3), ((3,), 2), ((2, 3), 1)} <= {(jam, sluice) for jam, _, sluice in rows})
        self.assertIs(is_attack_table(season, wishes, (0,) * 4, rows, most=3), True)

    def test_no_night_is_wasted(self):
        # The jam of sluice 0 does not matter to the wishes; three other jams are needed.
        season = Season(Valley(4, [(2, 3)] + [(0, 1)] * 4))
        wishes = [Season(season.valley, needs=[2, 0, 0, 0]), Season(season.valley, needs=[0, 4, 0, 0])]
        self.assertIsNone(attack_table(season, wishes, (0,) * 5, most=2))
        rows = attack_table(season, wishes, (0,) * 5, most=3)
        self.assertIs(is_attack_table(season, wishes, (0,) * 5, rows, most=3), True)
        self.assertTrue(plain_is_table(season, wishes, (0,) * 5, rows, 3))
        wasted = [(jam, evening, sluice if jam else 0) for jam, evening, sluice in rows]
        self.assertIs(is_attack_table(season, wishes, (0,) * 5, wasted, most=3), False)

    def test_errors_and_their_order(self):
        other = Season(Valley.ring(4))
        for call in (lambda wishes, setting: attack_table(WIDE, wishes, setting, most=1),
                     lambda wishes, setting: is_attack_table(WIDE, wishes, setting, [], most=1)):
            with self.assertRaises(ValleysDiffer) as caught:
                call([WISH, other], (0, 1, 1, 0))
            self.assertIsInstance(caught.exception, SluiceError)
            with self.assertRaises(NotRunning) as caught:
                call([WISH], [0, 1, 1, 0])
            self.assertEqual(caught.exception.setting, (0, 1, 1, 0))

    def test_against_plain_search(self):
        rng = random.Random(1)
        found, verdicts = [], []
        for season in random_seasons(2, 60) + dense_seasons(3, 20, sluices=5):
            plain = all_running(season)
            for setting in rng.sample(plain, min(2, len(plain))):
                wishes = random_wishes(rng, season, rng.randint(1, 3))
                most = rng.choice((0, 1, 2, 3, 10))
                rows = attack_table(season, wishes, setting, most=most)
                found.append(rows is None)
                self.assertEqual(evening_table(season, wishes, setting, most=most) is None, rows is not None)
                if rows is not None:
                    self.assertTrue(only_tuples(rows))
                    self.assertIs(is_attack_table(season, wishes, setting, rows, most=most), True)
                    self.assertTrue(plain_is_table(season, wishes, setting, rows, most))
                for changed in mutants(rng, season, plain, rows or []):
                    verdicts.append(plain_is_table(season, wishes, setting, changed, most))
                    same_as(self, is_attack_table(season, wishes, setting, changed, most=most), verdicts[-1])
        self.assertEqual((set(found), set(verdicts)), ({True, False}, {True, False}))


def mutants(rng, season, plain, rows):
    """The rows without some of them, with other sluices, and with more rows."""
    rows = list(rows)
    yield [row for row in rows if rng.random() < 0.8]
    size = len(season.valley)
    if size:
        yield [(jam, evening, sluice if rng.random() < 0.7 else rng.randrange(size)) for jam, evening, sluice in rows]
        yield rows + [((), rng.choice(plain), rng.randrange(size)) for _ in range(3)]
        yield [((), evening, rng.randrange(size)) for evening in plain]


if __name__ == "__main__":
    unittest.main()
