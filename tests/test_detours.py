"""Point 26: detours."""

import random
import unittest

from millsluices.detours import is_detour, least_detour
from millsluices.errors import NotRunning
from millsluices.seasons import Season
from millsluices.valleys import Valley
from plain import all_lots, all_running, counts, dense_seasons, only_tuples, random_seasons, reach
from test_stuckness import plain_reached

RING = Valley.ring(3)
PAIRS = Valley(3, [(1, 2), (1, 2), (0, 1)])
SIDE = Season(PAIRS, needs=[0, 1, 1])


def plain_patches(valley, sluices):
    """The patches, joined one sluice at a time; each with its mills."""
    found = []
    for sluice in sluices:
        mills, members = set(valley.sluices[sluice]), {sluice}
        for patch in [patch for patch in found if patch[0] & mills]:
            found.remove(patch)
            mills |= patch[0]
            members |= patch[1]
        found.append((mills, members))
    return found


def plain_detour(season, one, two, sluices, members):
    """The definition of point 26, where `members` are the settings to which walks lead from the first one."""
    loose = {at for other in members for at in range(len(one)) if other[at] != one[at]}
    apart = {at for at in range(len(one)) if one[at] != two[at]}
    if two not in members or not set(sluices) <= loose - apart:
        return False
    numbers = counts(season.valley, one)
    rich = {mill for mill in range(season.valley.mills) if numbers[mill] > season.needs[mill]}
    roomy = {mill for mill, limit in enumerate(season.limits) if limit is None or numbers[mill] < limit}
    pairs = [season.valley.sluices[at] for at in sorted(apart | set(sluices))]
    links = [(pair[1 - one[at]], pair[one[at]]) for pair, at in zip(pairs, sorted(apart | set(sluices)))]
    for mills, patch in plain_patches(season.valley, sorted(apart)):
        feeding = [season.valley.sluices[at][one[at]] for at in patch]
        touching = [mill for at in patch for mill in season.valley.sluices[at]]
        if all(2 * feeding.count(mill) == touching.count(mill) for mill in mills):
            if not plain_reached(links, mills) & rich or not plain_reached(links, roomy) & mills:
                return False
    return True


class DetourTest(unittest.TestCase):
    def test_ordinary(self):
        self.assertEqual(least_detour(SIDE, (0, 1, 0), (1, 0, 0)), (2,))
        self.assertEqual(least_detour(season=SIDE, one=[0, 1, 1], two=[1, 0, 1]), ())
        self.assertIs(is_detour(SIDE, (0, 1, 0), (1, 0, 0), [2]), True)
        self.assertIs(is_detour(SIDE, (0, 1, 0), (1, 0, 0), ()), False)
        self.assertIs(is_detour(season=SIDE, one=[0, 1, 0], two=[1, 0, 0], sluices=[2, 2]), True)

    def test_equal_settings(self):
        self.assertEqual(least_detour(SIDE, (0, 1, 0), (0, 1, 0)), ())
        self.assertIs(is_detour(SIDE, (0, 1, 0), (0, 1, 0), ()), True)
        self.assertIs(is_detour(SIDE, (0, 1, 0), (0, 1, 0), (2, 0)), True)

    def test_sluices_that_differ_or_are_stuck(self):
        self.assertIs(is_detour(SIDE, (0, 1, 0), (1, 0, 0), [2, 0]), False)
        pinned = Season(PAIRS.built([(0, 1)]), needs=[0, 1, 1], sides=[(0, 1)] * 3 + [(0,)])
        self.assertIs(is_detour(pinned, (0, 1, 0, 0), (1, 0, 0, 0), [2]), True)
        self.assertIs(is_detour(pinned, (0, 1, 0, 0), (1, 0, 0, 0), [2, 3]), False)

    def test_no_walk(self):
        full = Season(RING, needs=[1, 1, 1])
        self.assertIsNone(least_detour(full, (0, 0, 0), (1, 1, 1)))
        self.assertIs(is_detour(full, (0, 0, 0), (1, 1, 1), ()), False)

    def test_prices_and_order_of_tuples(self):
        season = Season(PAIRS.built([(0, 1)]), needs=[0, 1, 1])
        one, two = (0, 1, 0, 0), (1, 0, 0, 0)
        self.assertEqual(least_detour(season, one, two), (2,))
        self.assertEqual(least_detour(season, one, two, prices=[1, 1, 2, 1]), (3,))
        # Of detours with the same price the tuple counts, not its length.
        longer = Season(Valley(5, [(1, 2), (1, 2), (3, 4), (4, 1), (0, 1)]), needs=[0, 1, 1, 0, 0],
                        limits=[None, None, None, None, None])
        one, two = (0, 1, 0, 0, 0), (1, 0, 0, 0, 0)
        self.assertEqual(least_detour(longer, one, two, prices=[1, 1, 1, 1, 2]), (3,))
        needy = Season(longer.valley, needs=[0, 1, 1, 0, 1])
        self.assertEqual(least_detour(needy, one, two, prices=[1, 1, 1, 1, 2]), (2, 3))
        self.assertEqual(least_detour(needy, one, two, prices=[1, 1, 1, 2, 2]), (4,))
        self.assertEqual(least_detour(needy, one, two, prices=[1, 1, 1, 3, 4]), (2, 3))

    def test_not_running(self):
        for one, two in (([0, 1, 1], (0, 0, 0)), ((0, 0, 0), [0, 1, 1]), ([0, 1, 1], [0, 1, 0])):
            with self.assertRaises(NotRunning) as caught:
                least_detour(Season(RING, needs=[1, 1, 1]), one, two)
            self.assertEqual(caught.exception.setting, (0, 1, 1))
            with self.assertRaises(NotRunning) as caught:
                is_detour(Season(RING, needs=[1, 1, 1]), one, two, [0])
            self.assertEqual(caught.exception.setting, (0, 1, 1))

    def test_against_the_definition_and_the_distance(self):
        rng = random.Random(151)
        found = []
        for season in random_seasons(152, 80) + dense_seasons(153, 25) + dense_seasons(154, 25, mills=5, sluices=6):
            prices = [rng.randint(1, 3) for _ in season.valley]
            plain = all_running(season)
            for one in plain[:4]:
                members, costs = reach(season, one), reach(season, one, prices)
                for two in rng.sample(plain, min(4, len(plain))):
                    lots = [lot for lot in all_lots(len(one)) if plain_detour(season, one, two, lot, members)]
                    for lot in rng.sample(all_lots(len(one)), min(8, 2 ** len(one))):
                        self.assertEqual(is_detour(season, one, two, lot), lot in lots)
                    least = least_detour(season, one, two, prices=prices)
                    self.assertEqual(least, min(lots, key=lambda lot: (sum(prices[at] for at in lot), lot), default=None))
                    if two in members:
                        found.append(least)
                        self.assertTrue(only_tuples(least))
                        self.assertEqual(costs[two], sum(prices[at] for at in range(len(one)) if one[at] != two[at])
                                         + 2 * sum(prices[at] for at in least))
        self.assertTrue(any(found))


if __name__ == "__main__":
    unittest.main()
