"""Point 50: what is possible on a day."""

import random
import unittest

from millsluices.possible import history_through, possible
from millsluices.seasons import Season
from millsluices.valleys import Valley
from millsluices.watches import Watch, day_settings, is_history
from plain import all_settings, day_chains, only_tuples, plain_is_history, random_watch

RING = Valley.ring(3)
LOW = Season(RING, needs=[1, 1, 0])
FREE = Season(RING)
ZERO, ONE = (0, 0, 0), (1, 1, 1)
WATCH = Watch(LOW, [Season.only(RING, ZERO), Season(RING, limits=[1, None, 0])])
RUNNING = (ZERO, (0, 0, 1), (1, 0, 1), ONE)


class PossibleTest(unittest.TestCase):
    def test_ordinary(self):
        self.assertEqual(possible(WATCH, 0), (ZERO,))
        self.assertEqual(possible(WATCH, 1), ((1, 0, 1),))
        self.assertEqual(possible(watch=WATCH, day=1), ((1, 0, 1),))

    def test_one_report_and_six(self):
        self.assertEqual(possible(Watch(LOW, [FREE]), 0), RUNNING)
        ends = Watch(LOW, [Season.only(RING, ZERO), *[FREE] * 4, Season.only(RING, ONE)], turns=1)
        expected = [[ZERO], [ZERO, (0, 0, 1)], [ZERO, (0, 0, 1), (1, 0, 1)], [(0, 0, 1), (1, 0, 1), ONE],
                    [(1, 0, 1), ONE], [ONE]]
        for day, settings in enumerate(expected):
            self.assertEqual(possible(ends, day), tuple(settings))

    def test_no_turns(self):
        still = Watch(LOW, [Season(RING, needs=[0, 0, 1]), Season(RING, limits=[1, None, None])], turns=0)
        self.assertEqual(possible(still, 0), possible(still, 1))
        self.assertEqual(possible(still, 0), (ZERO, ONE))
        self.assertEqual(possible(Watch(LOW, still.reports), 1), (ZERO, (1, 0, 1), ONE))

    def test_later_days_tell_of_earlier_ones(self):
        watch = Watch(LOW, [FREE, Season.only(RING, ONE)], turns=1)
        self.assertEqual(possible(watch, 0), ((1, 0, 1), ONE))

    def test_without_a_history(self):
        nothing = Season(RING, needs=[4, 0, 0])
        far = Watch(LOW, [Season.only(RING, ZERO), Season.only(RING, ONE)], turns=2)
        apart = Watch(Season(RING, needs=[1, 1, 1]), [Season.only(RING, ZERO), Season.only(RING, ONE)])
        for watch in (Watch(LOW, [FREE, nothing]), Watch(nothing, [FREE, FREE]), far, apart):
            for day in (0, 1):
                self.assertEqual(possible(watch, day), ())
                for setting in RUNNING:
                    self.assertIsNone(history_through(watch, day, setting))

    def test_history_through(self):
        history = history_through(WATCH, 1, [1, 0, 1])
        self.assertIs(is_history(WATCH, history), True)
        self.assertTrue(only_tuples(history))
        self.assertEqual(history[0], ZERO)
        self.assertIsNone(history_through(WATCH, 1, ZERO))
        self.assertIsNone(history_through(WATCH, 0, (0, 1, 1)))
        self.assertEqual(history_through(watch=Watch(LOW, [FREE]), day=0, setting=ONE), (ONE, ()))

    def test_valley_without_sluices(self):
        bare = Watch(Season(Valley(1)), [Season(Valley(1))] * 3, turns=0)
        self.assertEqual(possible(bare, 2), ((),))
        self.assertEqual(history_through(bare, 1, ()), ((), ((), ())))

    def test_against_plain_search(self):
        rng = random.Random(1)
        empty = set()
        for _ in range(250):
            watch = random_watch(rng)
            chains = day_chains(watch)
            empty.add(bool(chains))
            for day in range(len(watch)):
                plain = {chain[day] for chain in chains}
                self.assertEqual(possible(watch, day), tuple(sorted(plain)))
                for setting in rng.sample(all_settings(watch.rule.valley), min(4, 2 ** len(watch.rule.valley))):
                    history = history_through(watch, day, setting)
                    self.assertEqual(history is not None, setting in plain)
                    if history is not None:
                        self.assertTrue(plain_is_history(watch, history))
                        self.assertIs(is_history(watch, history), True)
                        self.assertEqual(day_settings(history)[day], setting)
        self.assertEqual(empty, {True, False})

    def test_ten_sluices(self):
        valley = Valley(2, [(0, 1)] * 10)
        watch = Watch(Season(valley), [Season.only(valley, (0,) * 10), *[Season(valley)] * 4,
                                       Season.only(valley, (1,) * 10)], turns=2)
        for day in range(6):
            self.assertEqual({sum(setting) for setting in possible(watch, day)}, {2 * day})
        for day in range(6):
            setting = (1,) * (2 * day) + (0,) * (10 - 2 * day)
            history = history_through(watch, day, setting)
            self.assertIs(is_history(watch, history), True)
            self.assertEqual(day_settings(history)[day], setting)


if __name__ == "__main__":
    unittest.main()
