"""Point 52: what can be heard of a lot."""

import random
import unittest

from millsluices.errors import SluiceError, ValleysDiffer
from millsluices.hearing import blind_pair, fewest_heard, tells
from millsluices.seasons import Season
from millsluices.valleys import Valley
from millsluices.watches import Watch
from plain import all_lots, counts, day_chains, only_tuples, random_watch, random_wishes, runs, same_as

RING = Valley.ring(3)
LOW = Season(RING, needs=[1, 1, 0])
FREE = Season(RING)
ZERO, ONE = (0, 0, 0), (1, 1, 1)
OPEN = Watch(FREE, [FREE])
NONE = Watch(LOW, [FREE, Season(RING, needs=[4, 0, 0])])


def plain_pairs(watch, day, lot, claim):
    """All pairs of possible settings that sound alike, the first in the claim and the second not."""
    seen = sorted({chain[day] for chain in day_chains(watch)})
    sound = {setting: [counts(claim.valley, setting)[mill] for mill in lot] for setting in seen}
    return [(one, two) for one in seen for two in seen
            if sound[one] == sound[two] and runs(claim, one) and not runs(claim, two)]


class HearingTest(unittest.TestCase):
    def test_ordinary(self):
        claim = Season(RING, needs=[1, 1, 0])
        self.assertIs(tells(OPEN, 0, (0, 1), claim), True)
        self.assertIs(tells(watch=OPEN, day=0, lot=[1, 0, 1], claim=claim), True)
        self.assertIs(tells(OPEN, 0, [0], claim), False)
        self.assertIsNone(blind_pair(OPEN, 0, (1, 0), claim))
        self.assertEqual(blind_pair(OPEN, 0, [0], claim), (ZERO, (0, 1, 0)))
        self.assertEqual(blind_pair(watch=OPEN, day=0, lot=(0, 0), claim=claim), (ZERO, (0, 1, 0)))
        self.assertTrue(only_tuples(blind_pair(OPEN, 0, [0], claim)))
        self.assertEqual(fewest_heard(watch=OPEN, day=0, claim=claim), (0, 1))

    def test_the_empty_lot(self):
        for claim, good in ((FREE, True), (Season(RING, needs=[4, 0, 0]), True), (LOW, False)):
            self.assertIs(tells(OPEN, 0, (), claim), good)
            self.assertEqual(blind_pair(OPEN, 0, (), claim) is None, good)
            self.assertEqual(fewest_heard(OPEN, 0, claim) == (), good)
        self.assertEqual(blind_pair(OPEN, 0, (), LOW), (ZERO, (0, 1, 0)))

    def test_the_lot_of_all_mills(self):
        claim = Season.only(RING, ZERO)
        self.assertEqual(blind_pair(OPEN, 0, (0, 1, 2), claim), (ZERO, ONE))
        self.assertIs(tells(OPEN, 0, (2, 1, 0), claim), False)
        self.assertIsNone(fewest_heard(OPEN, 0, claim))
        apart = Season.only(RING, (0, 1, 1))
        self.assertEqual(fewest_heard(OPEN, 0, apart), (0, 1))
        row = Watch(Season(Valley.row(4)), [Season(Valley.row(4))])
        claim = Season(Valley.row(4), needs=[0, 1, 1, 0])
        self.assertEqual(fewest_heard(row, 0, claim), (1, 2))

    def test_first_lot_in_the_order_by_size(self):
        # In a row of two mills that share a sluice, each of them tells where it stands.
        two = Watch(Season(Valley.row(2)), [Season(Valley.row(2))])
        self.assertEqual(fewest_heard(two, 0, Season(Valley.row(2), needs=[0, 1])), (0,))

    def test_without_a_history_everything_is_told(self):
        for lot in ((), (0,), (0, 1, 2)):
            for day in (0, 1):
                self.assertIs(tells(NONE, day, lot, LOW), True)
                self.assertIsNone(blind_pair(NONE, day, lot, LOW))
                self.assertEqual(fewest_heard(NONE, day, LOW), ())

    def test_valleys_that_differ(self):
        other = Season(Valley.ring(4))
        for watch in (OPEN, NONE):
            for call in (lambda: tells(watch, 0, (), other), lambda: blind_pair(watch, 0, (0,), other),
                         lambda: fewest_heard(watch, 0, other)):
                with self.assertRaises(ValleysDiffer) as caught:
                    call()
                self.assertIsInstance(caught.exception, SluiceError)

    def test_against_plain_search(self):
        rng = random.Random(3)
        answers, sizes = set(), set()
        for _ in range(120):
            watch = random_watch(rng)
            day = rng.randrange(len(watch))
            mills = watch.rule.valley.mills
            for claim in random_wishes(rng, watch.rule, 2):
                good = []
                for lot in all_lots(mills):
                    pairs = plain_pairs(watch, day, lot, claim)
                    same_as(self, tells(watch, day, lot, claim), not pairs)
                    self.assertEqual(blind_pair(watch, day, lot, claim), min(pairs, default=None))
                    answers.add(not pairs)
                    good += [] if pairs else [lot]
                self.assertEqual(fewest_heard(watch, day, claim), good[0] if good else None)
                sizes.add(len(good[0]) if good else None)
        self.assertEqual(answers, {True, False})
        self.assertTrue({None, 0, 1, 2} <= sizes, sizes)

    def test_ten_sluices(self):
        valley = Valley(8, [(mill, (mill + step) % 8) for mill in range(5) for step in (1, 2)])
        watch = Watch(Season(valley), [Season(valley)])
        self.assertEqual(fewest_heard(watch, 0, Season(valley, needs=[0, 0, 2, 0, 0, 1, 0, 0])), (2, 5))
        self.assertIsNone(fewest_heard(watch, 0, Season.only(valley, (0, 1) * 5)))


if __name__ == "__main__":
    unittest.main()
