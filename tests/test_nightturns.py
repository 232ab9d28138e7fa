"""Point 51: the turns of all nights together."""

import random
import unittest

from millsluices.errors import NoHistory, SluiceError
from millsluices.nightturns import least_history, least_turns, never_turned, surely_turned
from millsluices.seasons import Season
from millsluices.valleys import Valley
from millsluices.watches import Watch
from plain import (all_running, day_chains, flip, only_tuples, plain_is_history, random_watch, reach, seen_on,
                   unset_sluices)

RING = Valley.ring(3)
LOW = Season(RING, needs=[1, 1, 0])
FREE = Season(RING)
ZERO, ONE = (0, 0, 0), (1, 1, 1)
WATCH = Watch(LOW, [Season.only(RING, ZERO), Season(RING, limits=[1, None, 0])])
NONE = Watch(LOW, [FREE, Season(RING, needs=[4, 0, 0])])


def plain_turned(watch, sluice):
    """Whether the sluice is turned in some history, and whether it is left alone in some history."""
    good = set(all_running(watch.rule))
    seen = [seen_on(watch, day) for day in range(len(watch.reports))]
    many = watch.turns is None or watch.turns > 100
    start = [(0, setting, 0, False) for setting in seen[0]]
    known, stack, found = set(start), start, set()
    while stack:
        day, setting, made, flag = stack.pop()
        nexts = []
        if day == len(seen) - 1:
            found.add(flag)
        else:
            if setting in seen[day + 1]:
                nexts.append((day + 1, setting, 0, flag))
            if many or made < watch.turns:
                nexts += [(day, flip(setting, number), 0 if many else made + 1, flag or number == sluice)
                          for number in unset_sluices(watch.rule) if flip(setting, number) in good]
        stack += [state for state in dict.fromkeys(nexts) if state not in known]
        known.update(nexts)
    return True in found, False in found


class NightTurnsTest(unittest.TestCase):
    def test_ordinary(self):
        self.assertEqual((least_turns(WATCH), surely_turned(WATCH), never_turned(WATCH)), (2, (0, 2), ()))
        self.assertEqual(least_history(watch=WATCH), (ZERO, ((2, 0),)))
        self.assertTrue(only_tuples(least_history(WATCH)))

    def test_few_turns_leave_no_time_for_others(self):
        watch = Watch(LOW, WATCH.reports, turns=3)
        self.assertEqual((surely_turned(watch), never_turned(watch)), ((0, 2), (1,)))
        self.assertEqual(never_turned(Watch(LOW, WATCH.reports, turns=4)), ())

    def test_no_turns(self):
        still = Watch(LOW, [FREE, FREE], turns=0)
        self.assertEqual((least_turns(still), surely_turned(still), never_turned(still)), (0, (), (0, 1, 2)))
        self.assertEqual(least_history(still)[1], ((),))
        free = Watch(LOW, [FREE, FREE])
        self.assertEqual((least_turns(free), surely_turned(free), never_turned(free)), (0, (), ()))

    def test_one_report_has_no_nights(self):
        one = Watch(LOW, [FREE])
        self.assertEqual((least_turns(one), surely_turned(one), never_turned(one)), (0, (), (0, 1, 2)))
        self.assertEqual(least_history(one)[1], ())

    def test_nights_with_many_turns_do_not_make_up_for_nights_with_few(self):
        ends = [Season.only(RING, ZERO), FREE, Season.only(RING, ONE)]
        for turns, least in ((None, 3), (3, 3), (2, 3), (1, None)):
            watch = Watch(LOW, ends, turns=turns)
            self.assertEqual(least_turns(watch), least)
        history = least_history(Watch(LOW, ends, turns=2))
        self.assertEqual(history[1][0] + history[1][1], (2, 0, 1))
        self.assertTrue(all(len(night) <= 2 for night in history[1]))

    def test_there_and_back(self):
        ends = [Season.only(RING, ZERO), Season(RING, limits=[1, None, 0]), Season.only(RING, ZERO)]
        watch = Watch(LOW, ends)
        self.assertEqual((least_turns(watch), surely_turned(watch)), (4, (0, 2)))
        self.assertTrue(plain_is_history(watch, least_history(watch)))

    def test_the_nearest_setting_is_not_always_on_the_way(self):
        # On day 1 mill 1 is fed: by sluice 3 after one turn, or by sluice 1 after two turns, on the way to day 2.
        rule = Season(Valley(4, [(2, 3), (0, 1), (2, 0), (2, 1)]), needs=[1, 0, 0, 0])
        watch = Watch(rule, [Season.only(rule.valley, (0, 0, 0, 0)), Season(rule.valley, needs=[0, 1, 0, 0]),
                             Season.only(rule.valley, (1, 1, 1, 0))])
        self.assertEqual((least_turns(watch), surely_turned(watch)), (3, (0, 1, 2)))
        history = least_history(watch)
        self.assertTrue(plain_is_history(watch, history))
        self.assertEqual([len(night) for night in history[1]], [2, 1])

    def test_set_sluices_are_never_turned(self):
        season = Season(Valley(2, [(0, 1), (0, 1)]), sides=[(0, 1), (1,)])
        watch = Watch(season, [Season(season.valley)] * 2)
        self.assertEqual((surely_turned(watch), never_turned(watch)), ((), (1,)))

    def test_without_a_history(self):
        self.assertIsNone(least_turns(NONE))
        self.assertIsNone(least_history(NONE))
        for watch in (NONE, Watch(Season(RING, needs=[4, 0, 0]), [FREE]),
                      Watch(LOW, [Season.only(RING, ZERO), Season.only(RING, ONE)], turns=2)):
            for call in (surely_turned, never_turned):
                with self.assertRaises(NoHistory) as caught:
                    call(watch)
                self.assertIsInstance(caught.exception, SluiceError)

    def test_least_against_plain_search(self):
        rng = random.Random(1)
        numbers = set()
        for _ in range(250):
            watch = random_watch(rng, *rng.choice(((3, 4), (4, 3), (5, 2))))
            chains = day_chains(watch)
            far = {setting: reach(watch.rule, setting) for chain in chains for setting in chain}
            totals = [sum(far[one][two] for one, two in zip(chain, chain[1:])) for chain in chains]
            least = min(totals, default=None)
            self.assertEqual(least_turns(watch), least)
            history = least_history(watch)
            numbers.add(least)
            if least is None:
                self.assertIsNone(history)
            else:
                self.assertTrue(plain_is_history(watch, history))
                self.assertEqual(sum(len(night) for night in history[1]), least)
        self.assertTrue({None, 0, 1, 2, 3, 4} <= numbers, numbers)

    def test_turned_sluices_against_plain_search(self):
        rng = random.Random(2)
        surely, never = set(), set()
        for _ in range(300):
            watch = random_watch(rng, *rng.choice(((3, 4), (4, 3), (5, 2))))
            sluices = range(len(watch.rule.valley))
            found = [plain_turned(watch, sluice) for sluice in sluices]
            if not day_chains(watch):
                for call in (surely_turned, never_turned):
                    with self.assertRaises(NoHistory):
                        call(watch)
            else:
                self.assertEqual(surely_turned(watch), tuple(sluice for sluice in sluices if not found[sluice][1]))
                self.assertEqual(never_turned(watch), tuple(sluice for sluice in sluices if not found[sluice][0]))
                surely.add(len(surely_turned(watch)))
                never.add(len(never_turned(watch)))
        self.assertTrue({0, 1} <= surely, surely)
        self.assertTrue({0, 1, 2} <= never, never)

    def test_ten_sluices(self):
        valley = Valley(2, [(0, 1)] * 10)
        watch = Watch(Season(valley, needs=[1, 0]), [Season.only(valley, (0,) * 10), *[Season(valley)] * 4,
                                                     Season(valley, needs=[0, 9])], turns=2)
        self.assertEqual((least_turns(watch), surely_turned(watch), never_turned(watch)), (9, (), ()))
        self.assertTrue(plain_is_history(watch, least_history(watch)))


if __name__ == "__main__":
    unittest.main()
