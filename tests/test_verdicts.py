"""Point 50: verdicts."""

import random
import unittest

from millsluices.errors import SluiceError, ValleysDiffer
from millsluices.seasons import Season
from millsluices.valleys import Valley
from millsluices.verdicts import Verdict, verdict
from millsluices.watches import Watch, day_settings
from plain import day_chains, only_tuples, plain_is_history, random_watch, random_wishes, runs

RING = Valley.ring(3)
LOW = Season(RING, needs=[1, 1, 0])
FREE = Season(RING)
ZERO = (0, 0, 0)
WATCH = Watch(LOW, [Season.only(RING, ZERO), Season(RING, limits=[1, None, 0])])


class VerdictTest(unittest.TestCase):
    def test_sure(self):
        found = verdict(WATCH, 1, Season(RING, needs=[0, 2, 0]))
        self.assertIsInstance(found, Verdict)
        self.assertEqual((found.word, found.breaking), ("sure", None))
        self.assertTrue(plain_is_history(WATCH, found.keeping))
        self.assertEqual(verdict(WATCH, 0, LOW).word, "sure")

    def test_never(self):
        found = verdict(watch=WATCH, day=0, claim=Season(RING, needs=[0, 2, 0]))
        self.assertEqual((found.word, found.keeping), ("never", None))
        self.assertTrue(plain_is_history(WATCH, found.breaking))
        self.assertEqual(verdict(WATCH, 1, Season(RING, needs=[4, 0, 0])).word, "never")

    def test_open(self):
        watch = Watch(LOW, [FREE, FREE], turns=1)
        claim = Season(RING, needs=[0, 2, 0])
        found = verdict(watch, 1, claim)
        self.assertEqual(found.word, "open")
        for history, good in ((found.keeping, True), (found.breaking, False)):
            self.assertTrue(plain_is_history(watch, history))
            self.assertTrue(only_tuples(history))
            self.assertEqual(runs(claim, day_settings(history)[1]), good)

    def test_none(self):
        watch = Watch(LOW, [FREE, Season(RING, needs=[4, 0, 0])])
        for day in (0, 1):
            found = verdict(watch, day, FREE)
            self.assertEqual((found.word, found.keeping, found.breaking), ("none", None, None))

    def test_valleys_that_differ(self):
        for watch in (WATCH, Watch(LOW, [Season(RING, needs=[4, 0, 0])])):
            with self.assertRaises(ValleysDiffer) as caught:
                verdict(watch, 0, Season(Valley.ring(4)))
            self.assertIsInstance(caught.exception, SluiceError)

    def test_against_plain_search(self):
        rng = random.Random(2)
        words = set()
        for _ in range(150):
            watch = random_watch(rng)
            chains = day_chains(watch)
            for day in range(len(watch)):
                for claim in random_wishes(rng, watch.rule, 2):
                    found = verdict(watch, day, claim)
                    good = {runs(claim, chain[day]) for chain in chains}
                    self.assertEqual((found.keeping is not None, found.breaking is not None),
                                     (True in good, False in good))
                    expected = {(True, False): "sure", (False, True): "never", (True, True): "open",
                                (False, False): "none"}[True in good, False in good]
                    self.assertEqual(found.word, expected)
                    words.add(found.word)
                    for history, kept in ((found.keeping, True), (found.breaking, False)):
                        if history is not None:
                            self.assertTrue(plain_is_history(watch, history))
                            self.assertEqual(runs(claim, day_settings(history)[day]), kept)
        self.assertEqual(words, {"sure", "never", "open", "none"})


if __name__ == "__main__":
    unittest.main()
