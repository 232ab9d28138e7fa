"""Points 48 and 49: watches and histories."""

import random
import unittest

from millsluices.errors import SluiceError, ValleysDiffer
from millsluices.possible import history_through
from millsluices.seasons import Season
from millsluices.valleys import Valley
from millsluices.watches import Watch, day_settings, is_history
from plain import (all_settings, day_chains, flips, only_tuples, plain_is_history, random_watch, same_as,
                   unset_sluices)

RING = Valley.ring(3)
LOW = Season(RING, needs=[1, 1, 0])
FREE = Season(RING)
ZERO = (0, 0, 0)
WATCH = Watch(LOW, [Season.only(RING, ZERO), Season(RING, limits=[1, None, 0])])
OTHER = Season(Valley.ring(4))


class WatchTest(unittest.TestCase):
    def test_fields(self):
        watch = Watch(LOW, [FREE, LOW], turns=2)
        self.assertEqual((watch.rule, watch.reports, watch.turns), (LOW, (FREE, LOW), 2))
        self.assertIsInstance(watch.reports, tuple)
        self.assertIsNone(Watch(LOW, (FREE,)).turns)
        self.assertEqual(Watch(rule=LOW, reports=(FREE,), turns=0).turns, 0)
        self.assertEqual((len(watch), list(watch)), (2, [FREE, LOW]))

    def test_one_report_and_six(self):
        self.assertEqual(len(Watch(LOW, [FREE])), 1)
        self.assertEqual(len(Watch(LOW, [FREE] * 6)), 6)
        self.assertEqual(list(Watch(LOW, [FREE] * 5 + [LOW])), [FREE] * 5 + [LOW])

    def test_copies_its_reports(self):
        reports = [FREE, LOW]
        watch = Watch(LOW, reports)
        reports.clear()
        self.assertEqual(watch.reports, (FREE, LOW))

    def test_equality(self):
        self.assertTrue(Watch(LOW, [FREE], turns=1) == Watch(LOW, (FREE,), turns=1))
        self.assertFalse(Watch(LOW, [FREE]) != Watch(LOW, [FREE]))
        for other in (Watch(FREE, [FREE], turns=1), Watch(LOW, [LOW], turns=1), Watch(LOW, [FREE, FREE], turns=1),
                      Watch(LOW, [FREE], turns=2), Watch(LOW, [FREE]), (LOW, (FREE,), 1), None):
            self.assertFalse(Watch(LOW, [FREE], turns=1) == other)
            self.assertTrue(Watch(LOW, [FREE], turns=1) != other)

    def test_one_day_more(self):
        first = Watch(LOW, [FREE], turns=3)
        second = first + LOW
        self.assertEqual((first.reports, second.reports), ((FREE,), (FREE, LOW)))
        self.assertEqual((second.rule, second.turns), (LOW, 3))
        self.assertEqual(second, Watch(LOW, [FREE, LOW], turns=3))
        self.assertIsNone((Watch(LOW, [FREE]) + FREE).turns)

    def test_valleys_that_differ(self):
        for call in (lambda: Watch(LOW, [OTHER]), lambda: Watch(LOW, [LOW, FREE, OTHER]), lambda: WATCH + OTHER,
                     lambda: Watch(OTHER, [FREE])):
            with self.assertRaises(ValleysDiffer) as caught:
                call()
            self.assertIsInstance(caught.exception, SluiceError)
        self.assertEqual(len(WATCH), 2)


class HistoryTest(unittest.TestCase):
    def test_ordinary(self):
        self.assertIs(is_history(WATCH, (ZERO, ((2, 0),))), True)
        self.assertIs(is_history(WATCH, [[0, 0, 0], [[2, 0]]]), True)
        self.assertIs(is_history(watch=WATCH, history=(ZERO, [(2, 2, 2, 0)])), True)
        self.assertIs(is_history(WATCH, ((1, 0, 1), ((),))), False)
        self.assertIs(is_history(WATCH, (ZERO, ((),))), False)

    def test_turns_that_are_no_walk(self):
        self.assertIs(is_history(WATCH, (ZERO, ((0, 2),))), False)
        free = Watch(LOW, [FREE, FREE])
        self.assertIs(is_history(free, (ZERO, ((0, 0),))), False)
        self.assertIs(is_history(free, (ZERO, ((2, 2),))), True)

    def test_too_many_turns(self):
        for turns, good in ((None, True), (2, True), (1, False), (0, False), (10 ** 30, True)):
            watch = Watch(LOW, WATCH.reports, turns=turns)
            self.assertIs(is_history(watch, (ZERO, ((2, 0),))), good)
        still = Watch(LOW, [FREE, LOW], turns=0)
        self.assertIs(is_history(still, (ZERO, ((),))), True)
        self.assertIs(is_history(still, (ZERO, ((2,),))), False)

    def test_too_few_and_too_many_nights(self):
        for nights in ((), ((2, 0), ()), ((2,), (0,)), ((2, 0), (), ())):
            self.assertIs(is_history(WATCH, (ZERO, nights)), False)
        one = Watch(LOW, [FREE])
        self.assertIs(is_history(one, (ZERO, ())), True)
        self.assertIs(is_history(one, (ZERO, ((),))), False)

    def test_settings_that_do_not_run(self):
        self.assertIs(is_history(Watch(LOW, [FREE]), ((0, 1, 1), ())), False)
        self.assertIs(is_history(Watch(FREE, [LOW]), ((0, 1, 1), ())), False)
        self.assertIs(is_history(Watch(FREE, [FREE]), ((0, 1, 1), ())), True)
        nothing = Watch(FREE, [FREE, Season(RING, needs=[4, 0, 0])])
        self.assertIs(is_history(nothing, (ZERO, ((),))), False)

    def test_day_settings(self):
        self.assertEqual(day_settings((ZERO, ((2, 0), (), (1, 1)))), (ZERO, (1, 0, 1), (1, 0, 1), (1, 0, 1)))
        self.assertEqual(day_settings([[0, 1, 1], [[2], [0, 1]]]), ((0, 1, 1), (0, 1, 0), (1, 0, 0)))
        self.assertEqual(day_settings(history=(ZERO, ())), (ZERO,))
        self.assertEqual(day_settings(((), ((), ()))), ((), (), ()))
        self.assertTrue(only_tuples(day_settings([[0, 0, 0], [[2], []]])))

    def test_changed_histories_against_the_definition(self):
        rng = random.Random(1)
        verdicts = []
        for _ in range(150):
            watch = random_watch(rng)
            size = len(watch.rule.valley)
            chains = day_chains(watch)
            for chain in rng.sample(chains, min(3, len(chains))):
                day = rng.randrange(len(chain))
                first, nights = history_through(watch, day, chain[day])
                for _ in range(3):
                    changed = [list(night) for night in nights]
                    kind = rng.randrange(6)
                    if kind == 0 and changed and size:
                        changed[rng.randrange(len(changed))].insert(0, rng.randrange(size))
                    elif kind == 1 and changed and unset_sluices(watch.rule):
                        changed[rng.randrange(len(changed))] += [rng.choice(unset_sluices(watch.rule))] * 2
                    elif kind == 2:
                        changed = changed[1:]
                    elif kind == 3:
                        changed.append([])
                    elif kind == 4:
                        first = rng.choice(all_settings(watch.rule.valley))
                    verdicts.append(plain_is_history(watch, (first, changed)))
                    same_as(self, is_history(watch, (first, changed)), verdicts[-1])
                    self.assertEqual(day_settings((first, changed))[-1], flips(first, sum(changed, [])))
        self.assertEqual(set(verdicts), {True, False})


if __name__ == "__main__":
    unittest.main()
