"""What one part of the document promises of another, over the parts together."""

import copy
import random
import unittest

from millsluices.blockades import blocked_by, is_blockade
from millsluices.building import mending, shortfall
from millsluices.calendars import Calendar
from millsluices.catches import tried
from millsluices.chances import chance, share
from millsluices.classes import class_season, class_size, classes, first_in_class
from millsluices.connections import connect
from millsluices.daybooks import Daybook, perform
from millsluices.distances import distance, distances, farthest, within
from millsluices.evenings import withstands
from millsluices.fits import fit
from millsluices.freeing import freeing
from millsluices.groping import groping_plan, is_groping_plan
from millsluices.guarding import guarded
from millsluices.habits import Habit
from millsluices.harms import harm, reached_pairs
from millsluices.holding import holding, holds
from millsluices.jams import jam_strength, survives
from millsluices.lasting import lasts
from millsluices.longnotes import format_history, format_plan, parse_history, parse_plan
from millsluices.loosening import loosenings
from millsluices.nights import braced
from millsluices.nightturns import least_history, least_turns
from millsluices.orders import any_order
from millsluices.outs import outs_needed
from millsluices.plans import find_plan, is_plan
from millsluices.possible import possible
from millsluices.rests import fewest_rests
from millsluices.rounds import are_rounds, fewest_rounds, first_rounds
from millsluices.running import first_running, obstacle, running, running_count
from millsluices.seasonnotes import format_season, parse_season
from millsluices.seasons import Season
from millsluices.shortest import shortest_walk
from millsluices.sparing import cleanable, closable
from millsluices.storms import falls_within
from millsluices.stuckness import loose, stuck
from millsluices.sureness import tightened
from millsluices.telling import alike_groups
from millsluices.timetables import timetable
from millsluices.unity import unity
from millsluices.valleys import Valley
from millsluices.verdicts import verdict
from millsluices.waits import secures, waits_for
from millsluices.walks import turnable
from millsluices.watches import Watch, is_history
from millsluices.weaving import always_safe, safe_weaving
from millsluices.winning import wins_after
from plain import dense_seasons, large_season, random_foes, random_seasons, random_wishes, runs


class TogetherTest(unittest.TestCase):
    def setUp(self):
        self.rng = random.Random(1)
        self.seasons = random_seasons(2, 60, tight=0.3) + dense_seasons(3, 20, mills=3, sluices=5)

    def draws(self, many=2):
        """Seasons with two running settings."""
        for season in self.seasons:
            members = list(running(season))
            for _ in range(many if members else 0):
                yield season, self.rng.choice(members), self.rng.choice(members)

    def test_walks_lead_where_everything_else_leads(self):
        joined = set()
        for season, one, two in self.draws():
            leads = connect(season, one, two).joined
            joined.add(leads)
            self.assertEqual(distance(season, one, two) is not None, leads)
            self.assertEqual(two in within(season, one), leads)
            self.assertEqual(fewest_rounds(season, one, two) is not None, leads)
            self.assertEqual(outs_needed(season, one, two) == 0, leads)
            self.assertEqual(fewest_rests(season, one, two) == (), leads)
            self.assertEqual(first_in_class(season, one) == first_in_class(season, two), leads)
            self.assertEqual(two in class_season(season, one), leads)
            self.assertEqual(fit(season, Season.only(season.valley, two), one).met, leads)
            self.assertEqual(perform(Daybook(season, one), [("go", two)]), ("done" if leads else "NoWay",))
            self.assertEqual(least_turns(Watch(season, [Season.only(season.valley, one),
                                                        Season.only(season.valley, two)])), distance(season, one, two))
            known = timetable([season, Season.only(season.valley, two)], one)
            self.assertEqual(known.kept, leads)
        self.assertEqual(joined, {True, False})

    def test_with_one_hand_the_least_number_of_rounds_is_the_distance(self):
        for season, one, two in self.draws(4):
            self.assertEqual(fewest_rounds(season, one, two, hands=1), distance(season, one, two))
            walk = shortest_walk(season, one, two)
            rounds = first_rounds(season, one, two, hands=1)
            self.assertEqual(rounds, None if walk is None else tuple((sluice,) for sluice in walk))
            for hands in (None, 2):
                found = first_rounds(season, one, two, hands=hands)
                if found is not None:
                    self.assertIs(are_rounds(season, one, found, hands=hands), True)

    def test_rounds_orders_and_weavings(self):
        for season, one, _ in self.draws():
            size = len(season.valley)
            row = tuple(sorted(self.rng.sample(range(size), min(size, self.rng.randint(1, 3)))))
            safe = any_order(season, one, row)
            hands = [[sluice] for sluice in row]
            if row:
                self.assertEqual(are_rounds(season, one, [row]), safe)
                self.assertEqual(always_safe(season, one, hands), safe)
                self.assertEqual(secures(season, one, hands, ()), safe)
            weaving = safe_weaving(season, one, hands)
            self.assertEqual(waits_for(season, one, hands) is not None, weaving is not None)

    def test_classes_are_counted_alike(self):
        for season, one, _ in self.draws():
            size = class_size(season, one)
            self.assertEqual(len(within(season, one)), size)
            self.assertEqual(len(distances(season, one)), size)
            self.assertEqual(max(number for _, number in distances(season, one)), farthest(season, one)[0])
            self.assertEqual(running_count(class_season(season, one)), size)
            self.assertEqual(share(season, one, class_season(season, one)), (1, 1))
            self.assertEqual(len(list(classes(season))) == 1, unity(season).single)
            every = [(0, sluice, 0) for sluice in range(len(season.valley))]
            self.assertEqual(len(reached_pairs(season, one, Habit(every))), size)

    def test_what_no_walk_turns(self):
        for season, one, _ in self.draws():
            members = within(season, one)
            turned = {sluice for sluice in range(len(season.valley))
                      for other in members if other[sluice] != one[sluice]}
            self.assertEqual(loose(season, one), tuple(sorted(turned)))
            self.assertTrue(set(turnable(season, one)) <= turned)
            self.assertIs(is_blockade(season, one, (), ()), True)
            self.assertTrue(set(blocked_by(season, (), ())) <= set(stuck(season, one)))
            same = tightened(season)
            self.assertEqual((list(running(same)), loose(same, one)), (list(running(season)), loose(season, one)))

    def test_wishes(self):
        for season, one, _ in self.draws():
            for wish in random_wishes(self.rng, season, 1):
                met = fit(season, wish, one).met
                strength = jam_strength(season, (wish,), one)
                self.assertEqual(survives(season, (wish,), one, ()), met)
                self.assertEqual(strength == -1, not met)
                self.assertEqual(share(season, one, wish)[0] > 0, met)
                self.assertEqual(wins_after(season, wish, one, (), most=0), 0 if met else None)
                watch = Watch(season, [Season.only(season.valley, one), wish])
                self.assertEqual(bool(possible(watch, 1)), met)
                self.assertEqual(verdict(watch, 1, wish).word, "sure" if met else "none")
                self.assertEqual(lasts(Calendar([season, wish], [[1], []]), 0, one), met)
                for most in (0, 1, 2):
                    good = strength is None or strength >= most
                    plan = find_plan(season, wish, one, most=most)
                    self.assertEqual(plan is not None, good)
                    if good:
                        self.assertIs(withstands(season, (wish,), one, most=most), True)
                        again = parse_plan(season.valley, format_plan(plan))
                        self.assertEqual(again, plan)
                        self.assertIs(is_plan(season, wish, one, again, most=most), True)

    def test_chances_and_distances(self):
        for season, one, two in self.draws():
            number = distance(season, one, two)
            wish = Season.only(season.valley, two)
            for hours in range(4):
                sure = chance(season, one, wish, hours)[0] > 0
                if number is None or hours < number:
                    self.assertFalse(sure)
                elif hours == number:
                    self.assertTrue(sure)

    def test_foes(self):
        for season, one, _ in self.draws(1):
            foes = random_foes(self.rng, season)
            self.assertEqual(holding(season, ()), tuple(running(season)))
            self.assertEqual(holds(season, one, foes), falls_within(season, one, foes) is None)
            good = any(braced(season, other, foes) for other in within(season, one))
            self.assertEqual(holds(season, one, foes, shared=True), good)
            self.assertEqual(holds(season, one, foes, turns=0, most=10), all(
                braced(season, other, foes, most=10) for other in [one]))
            moves = [(0, sluice, 0) for sluice in set(foes)]
            self.assertEqual((one, 0) in guarded(season, Habit(moves), foes), harm(season, one, Habit(moves)) is None)

    def test_histories(self):
        for season, one, two in self.draws():
            watch = Watch(season, [Season.only(season.valley, one), Season(season.valley),
                                   Season.only(season.valley, two)])
            history = least_history(watch)
            if history is not None:
                again = parse_history(season.valley, format_history(history))
                self.assertEqual(again, history)
                self.assertIs(is_history(watch, again), True)
                follow = Daybook(season, one)
                self.assertEqual(perform(follow, [("walk", turns) for turns in again[1]]), ("done", "done"))
                self.assertEqual(follow.setting, two)

    def test_in_the_dark(self):
        for season, one, two in self.draws(1):
            plan = groping_plan(season, [one, two])
            self.assertIs(is_groping_plan(season, [one, two], plan), True)
            group = [members for members in alike_groups(season) if one in members][0]
            self.assertEqual(plan == (), two in group)
            for sluice in range(len(season.valley)):
                self.assertEqual(tried(season, one, [sluice])[1], (sluice in turnable(season, one),))

    def test_building_and_loosening(self):
        for season in self.seasons:
            if obstacle(season) is None:
                loosened = season.loosened(*loosenings(season))
                self.assertIs(unity(loosened).single, True)
                self.assertEqual(loose(loosened, first_running(loosened)), season.unset)
            if season.valley.mills > 1 and set(season.limits) == {None} and () not in season.sides:
                self.assertEqual(shortfall(season) == 0, obstacle(season) is None)
                built = season.built(mending(season))
                self.assertIsNone(obstacle(built))
                self.assertIs(unity(built.built(freeing(built))).single, True)

    def test_sparing(self):
        for season, one, _ in self.draws():
            good = cleanable(season, one)
            self.assertTrue(set(good) <= set(closable(season)))
            for sluice in good:
                self.assertIsNone(obstacle(season.without((sluice,))))

    def test_daybooks_keep_what_runs(self):
        for seed in range(4):
            season, setting = large_season(seed, slack=2)
            book = Daybook(season, setting)
            for _ in range(20):
                perform(book, [("turn", self.rng.randrange(48)), ("jam", [self.rng.randrange(48)])])
                self.assertTrue(runs(book.season, book.setting))
            self.assertEqual(perform(book, [("clear", list(range(48))), ("go", setting)]), ("done", "done"))

    def test_objects_stay_as_they_were(self):
        for season, one, two in self.draws(1):
            wish = random_wishes(self.rng, season, 1)[0]
            watch = Watch(season, [season, wish])
            plan = find_plan(season, season, one, most=1)
            calendar = Calendar([season, wish], [[1], [0]])
            habit = Habit([(0, sluice, 1) for sluice in range(len(season.valley))])
            objects = (season, wish, watch, plan, calendar, habit)
            before = copy.deepcopy([vars(item) for item in objects])
            note = format_season(season)
            connect(season, one, two), unity(season), jam_strength(season, [wish], one), least_turns(watch)
            possible(watch, 0), verdict(watch, 0, wish), is_plan(season, season, one, plan, most=1)
            lasts(calendar, 0, one), harm(season, one, habit), cleanable(season, one), alike_groups(season)
            perform(Daybook(season, one), [("jam", season.unset), ("season", wish), ("go", two), ("undo",)])
            self.assertEqual([vars(item) for item in objects], before)
            self.assertEqual(format_season(season), note)
            self.assertEqual(parse_season(note), season)

    def test_parts_of_a_valley_do_not_concern_each_other(self):
        for _ in range(20):
            one, two = [self.rng.choice(self.seasons) for _ in range(2)]
            both = Season(one.valley + two.valley, needs=one.needs + two.needs, limits=one.limits + two.limits,
                          sides=one.sides + two.sides)
            self.assertEqual(obstacle(both) is None, obstacle(one) is None and obstacle(two) is None)
            if obstacle(both) is None:
                first, second = first_running(one), first_running(two)
                self.assertEqual(first_running(both), first + second)
                self.assertEqual(stuck(both, first + second),
                                 stuck(one, first) + tuple(len(first) + sluice for sluice in stuck(two, second)))
                self.assertEqual(parse_season(format_season(both)), both)
                self.assertEqual(Valley(both.valley.mills, both.valley.sluices), both.valley)


if __name__ == "__main__":
    unittest.main()
