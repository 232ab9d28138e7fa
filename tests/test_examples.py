"""The examples of the document's interface."""

import unittest

from millsluices.building import shortfall
from millsluices.calendars import Calendar
from millsluices.catches import tried
from millsluices.chances import chance, share
from millsluices.classes import class_key, classes
from millsluices.connections import connect
from millsluices.daybooks import Daybook, perform
from millsluices.detours import least_detour
from millsluices.distances import distances
from millsluices.errors import BadNote, BadWalk
from millsluices.falling import falls_after
from millsluices.fits import fit
from millsluices.groping import fewest_tries, remaining
from millsluices.guarding import guarded_reach
from millsluices.habits import Habit
from millsluices.harms import harm, reached_pairs
from millsluices.holding import is_hold_table
from millsluices.jams import fatal_jams, jam_strength, stoutest
from millsluices.lasting import lasting
from millsluices.longnotes import format_plan
from millsluices.loosening import loosening_count
from millsluices.lots import gain, load
from millsluices.nights import braced, nights
from millsluices.nightturns import least_turns, never_turned, surely_turned
from millsluices.orders import bad_order, some_order
from millsluices.outs import greatest_out, outs_needed
from millsluices.plans import Plan, follow_plan, is_plan
from millsluices.possible import possible
from millsluices.rests import fewest_rests, least_rests, must_rest
from millsluices.rounds import fewest_rounds, first_rounds
from millsluices.running import obstacle, running
from millsluices.seasonnotes import format_season, parse_season
from millsluices.seasons import Season
from millsluices.settings import fed, turned
from millsluices.shortest import shortest_walk
from millsluices.stuckness import loose, starved, stuck
from millsluices.sureness import sure_sides, tightened
from millsluices.telling import alike_groups, telling_tries
from millsluices.tightness import greatest_tight_below
from millsluices.timetables import timetable
from millsluices.valleys import Valley
from millsluices.verdicts import verdict
from millsluices.waits import fewest_waits
from millsluices.walks import follow, turnable
from millsluices.watches import Watch
from millsluices.weaving import bad_weaving, safe_weaving


class ExamplesTest(unittest.TestCase):
    ring = Valley.ring(3)
    season = Season(ring, needs=[1, 1, 1])
    low = Season(ring, needs=[1, 1, 0])
    side = Season(Valley(3, [(1, 2), (1, 2), (0, 1)]), needs=[0, 1, 1])
    wide = Season(ring.built([(0, 1)]), needs=[1, 1, 1])
    wish = Season(wide.valley, needs=[1, 2, 1])
    zero = (0, 0, 0, 0)
    year = Calendar.yearly([Season(ring, needs=[1, 1, 0]), Season(ring, needs=[0, 1, 1])])

    watch = Watch(Season(ring, needs=[1, 1, 0]), [Season.only(ring, (0, 0, 0)), Season(ring, limits=[1, None, 0])])

    def test_valleys(self):
        self.assertEqual(self.ring.sluices, ((0, 1), (1, 2), (2, 0)))
        self.assertEqual((self.ring + Valley.row(2)).sluices, ((0, 1), (1, 2), (2, 0), (3, 4)))
        self.assertEqual((self.ring + Valley.row(2)).parts, ((0, 1, 2), (3, 4)))

    def test_settings(self):
        self.assertEqual(fed(self.ring, (0, 1, 1)), (2, 0, 1))
        self.assertEqual(turned((0, 1, 1), [2, 0, 2]), (1, 1, 1))

    def test_seasons(self):
        self.assertTrue((0, 0, 0) in self.season)
        self.assertEqual(self.season.out((0, 1, 1)), (1,))
        self.assertEqual(self.season.pinned((0, 0, 1), [2, 0]).sides, ((0,), (0, 1), (1,)))
        self.assertEqual((self.season & Season(self.ring, limits=[1, None, 2])).rigid, (0,))

    def test_lots(self):
        self.assertEqual((gain(self.season, [0, 1]), load(self.season, [0, 1])), (3, 1))

    def test_running(self):
        self.assertEqual(list(running(self.season)), [(0, 0, 0), (1, 1, 1)])
        self.assertEqual(obstacle(Season(self.ring, needs=[2, 1, 1])), ("wants", (0, 1, 2)))

    def test_tightness(self):
        self.assertEqual(greatest_tight_below(self.season), (0, 1, 2))

    def test_sureness(self):
        self.assertEqual(sure_sides(Season(self.ring, needs=[2, 0, 0])), (0, None, 1))
        self.assertEqual(tightened(Season(self.ring, needs=[2, 0, 0])).limits, (2, 1, 1))

    def test_walks(self):
        self.assertEqual(follow(self.low, (0, 0, 0), [2, 0]), ((0, 0, 0), (0, 0, 1), (1, 0, 1)))
        self.assertEqual(turnable(self.low, (0, 0, 1)), (0, 2))
        with self.assertRaises(BadWalk) as caught:
            follow(self.low, (0, 0, 0), [2, 1])
        self.assertEqual(caught.exception.index, 1)

    def test_stuckness(self):
        self.assertEqual((starved(self.season, (0, 0, 0)), stuck(self.season, (0, 0, 0))), ((0, 1, 2), (0, 1, 2)))
        self.assertEqual(loose(Season(self.ring, needs=[1, 1, 0]), (0, 0, 0)), (0, 1, 2))

    def test_connections(self):
        self.assertEqual(connect(self.season, (0, 0, 0), (1, 1, 1)).blocked, (0, 1, 2))
        self.assertIs(connect(Season(self.ring, needs=[1, 1, 0]), (0, 0, 0), (1, 1, 1)).joined, True)

    def test_classes(self):
        self.assertEqual(list(classes(self.season)), [(0, 0, 0), (1, 1, 1)])
        self.assertEqual(class_key(self.season, (1, 1, 1)), ((0, 1), (1, 1), (2, 1)))

    def test_orders(self):
        self.assertEqual(some_order(self.low, (0, 0, 0), [0, 1, 2]), (2, 0, 1))
        self.assertEqual(bad_order(self.low, (0, 0, 0), [0, 1, 2]), (0,))

    def test_distances(self):
        self.assertEqual(distances(Season(self.ring, needs=[1, 1, 0]), (0, 0, 0), prices=[1, 1, 5]),
                         (((0, 0, 0), 0), ((0, 0, 1), 5), ((1, 0, 1), 6), ((1, 1, 1), 7)))

    def test_detours(self):
        self.assertEqual(least_detour(self.side, (0, 1, 0), (1, 0, 0)), (2,))

    def test_shortest(self):
        self.assertEqual(shortest_walk(self.side, (0, 1, 0), (1, 0, 0)), (2, 0, 1, 2))

    def test_rests(self):
        self.assertEqual(list(least_rests(self.season, (0, 0, 0), (1, 1, 1))), [(0,), (1,), (2,)])
        self.assertEqual(must_rest(self.season, (0, 0, 0), (1, 1, 1)), ())
        self.assertEqual(fewest_rests(self.season, (0, 0, 0), (1, 1, 1)), (0,))

    def test_outs(self):
        narrow = self.season & Season(self.ring, limits=[1, 1, 1])
        self.assertEqual(outs_needed(self.season, (0, 0, 0), (1, 1, 1)), 1)
        self.assertEqual(outs_needed(narrow, (0, 0, 0), (1, 1, 1)), 2)
        self.assertEqual(greatest_out(self.season, (0, 0, 0), [0, 1]), 1)

    def test_fits(self):
        self.assertEqual(fit(self.wide, self.wish, self.zero).reached, (0, 0, 0, 1))
        self.assertIs(fit(self.wide, Season(self.wide.valley, needs=[2, 2, 1]), self.zero).met, False)

    def test_jams(self):
        self.assertEqual(list(fatal_jams(self.wide, [self.wish], self.zero, most=3)), [(0, 3)])
        self.assertEqual(jam_strength(self.wide, [self.wish], self.zero), 1)
        self.assertEqual(stoutest(self.wide, [self.wish], self.zero), (None, (0, 0, 0, 1)))

    def test_plans(self):
        plan = Plan([((0, 0, 0, 0), (), 3), ((0, 0, 0, 0), (3,), 0)])
        self.assertEqual(follow_plan(plan, self.zero, [1, 3]), ((3, False), (0, True)))
        self.assertIs(is_plan(self.wide, self.wish, self.zero, plan, most=1), True)
        self.assertIs(is_plan(self.wide, self.wish, self.zero, plan, most=2), False)

    def test_lasting(self):
        self.assertEqual(lasting(self.year)[0], ((0, 0, 0), (0, 0, 1), (1, 0, 1), (1, 1, 1)))
        self.assertEqual(lasting(self.year, turns=0)[0], ((0, 0, 0), (1, 1, 1)))

    def test_falling(self):
        self.assertEqual(falls_after(self.year, 0, (0, 0, 1), turns=0), 1)

    def test_timetables(self):
        days = [Season(self.ring, needs=[1, 1, 0]), Season(self.ring, needs=[0, 1, 1]),
                Season(self.ring, needs=[0, 0, 2])]
        self.assertEqual(timetable(days, (1, 0, 1), turns=1).changes, ((1, 1, 1), (1, 1, 0)))
        self.assertEqual(timetable(days, (1, 0, 1), turns=0).day, 1)

    def test_nights(self):
        self.assertEqual(nights(self.wide, self.zero, [0, 3]), (self.zero, (0, 0, 0, 1), (1, 0, 0, 0)))
        self.assertIs(braced(self.wide, self.zero, [0, 3]), True)
        self.assertIs(braced(self.wide, self.zero, [0, 3], most=2), False)

    def test_holding(self):
        rows = [((0, 0, 0, 0), (0, 0, 0, 0)), ((1, 0, 0, 0), (1, 0, 0, 0))]
        self.assertIs(is_hold_table(self.wide, self.zero, [0], rows, turns=0), True)

    def test_harms(self):
        habit = Habit([(0, 2, 1), (1, 0, 0)])
        self.assertEqual(harm(self.low, (0, 0, 0), habit), (2, 0, 2))
        self.assertEqual(reached_pairs(self.low, (0, 0, 0), habit),
                         (((0, 0, 0), 0), ((0, 0, 1), 1), ((1, 0, 1), 0)))

    def test_guarding(self):
        self.assertEqual(guarded_reach(self.low, Habit([(0, 0, 0), (0, 1, 0), (0, 2, 0)]), [0], (0, 0, 1)),
                         (((0, 0, 1), 0), ((1, 0, 1), 0)))

    def test_what_was_seen(self):
        self.assertEqual(possible(self.watch, 1), ((1, 0, 1),))
        self.assertEqual(verdict(self.watch, 1, Season(self.ring, needs=[0, 2, 0])).word, "sure")
        self.assertEqual((least_turns(self.watch), surely_turned(self.watch), never_turned(self.watch)),
                         (2, (0, 2), ()))

    def test_several_hands(self):
        season = Season(self.ring, needs=[1, 0, 0])
        self.assertEqual(bad_weaving(season, (0, 0, 1), [[0], [2, 2]]), (0, 1))
        self.assertEqual(safe_weaving(season, (0, 0, 1), [[0], [2, 2]]), (1, 1, 0))
        self.assertEqual(fewest_waits(season, (0, 0, 1), [[0], [2, 2]]), ((0, 0, 1, 2),))

    def test_building_and_loosening(self):
        self.assertEqual(shortfall(Season(self.ring, needs=[2, 2, 1])), 2)
        self.assertEqual(loosening_count(self.season), 1)
        self.assertEqual(loosening_count(self.season & Season(self.ring, limits=[1, 1, 1])), 3)

    def test_chances(self):
        self.assertEqual(share(self.low, (0, 0, 0), Season(self.ring, needs=[0, 2, 0])), (1, 4))
        self.assertEqual(chance(self.low, (0, 0, 0), Season(self.ring, needs=[0, 2, 0]), 2), (1, 9))

    def test_daybooks(self):
        book = Daybook(self.wide, (0, 0, 0, 0))
        program = [("turn", 3), ("jam", [3]), ("trial", [("turn", 0), ("turn", 3)]), ("undo",)]
        self.assertEqual(perform(book, program), ("done", "done", ("WouldStop", "Jammed"), "done"))
        self.assertEqual((book.setting, book.deeds), ((0, 0, 0, 1), (("turn", 3),)))

    def test_notes(self):
        season = Season(self.ring, needs=[1, 0, 2], limits=[None, 1, None]).pinned((0, 0, 1), [2])
        self.assertEqual(format_season(season), "mills 3\nsluice 0 1\nsluice 1 2\nsluice 2 0 side 1\n"
                                                "need 0 1\nneed 2 2\nlimit 1 1")
        with self.assertRaises(BadNote) as caught:
            parse_season("mills 2\nneed 0 1\nneed 0 2")
        self.assertEqual(caught.exception.line, 2)
        plan = Plan([((0, 0, 0, 0), (), 3), ((0, 0, 0, 0), (0, 3), 0)])
        self.assertEqual(format_plan(plan), "0000 - 3\n0000 0,3 0")

    def test_rounds(self):
        self.assertEqual(first_rounds(Season(self.ring), (0, 0, 0), (1, 1, 1)), ((0, 1, 2),))
        self.assertEqual(fewest_rounds(Season(self.ring), (0, 0, 0), (1, 1, 1), hands=2), 2)
        self.assertEqual(fewest_rounds(self.low, (0, 0, 0), (1, 1, 1)), 3)

    def test_in_the_dark(self):
        self.assertEqual(tried(self.low, (0, 0, 0), [0, 2, 0]), ((1, 0, 1), (False, True, True)))
        self.assertEqual(telling_tries(self.low, (0, 0, 0), (1, 1, 1)), (1,))
        self.assertEqual(alike_groups(self.season), (((0, 0, 0), (1, 1, 1)),))
        three = [(0, 0, 0), (0, 0, 1), (1, 1, 1)]
        self.assertEqual(remaining(self.low, three, [0], [False]), ((0, 0, 0), (1, 1, 1)))
        self.assertEqual(fewest_tries(self.low, three), 2)


if __name__ == "__main__":
    unittest.main()
