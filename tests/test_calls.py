"""Points 2 to 5 for every function: by place and by name, lists and tuples, repeated numbers, nothing changed."""

import copy
import inspect
import random
import unittest

from millsluices import (attacks, blockades, building, buying, calendars, catches, chances, classes, connections,
                         daybooks, detours, distances, evenings, falling, fits, freeing, groping, guarding, habits,
                         harms, hearing, holding, jams, lasting, longnotes, loosening, lots, nights, nightturns, orders,
                         outs, partings, plans, possible, rests, rounds, running, seasonnotes, seasons, settings,
                         shortest, sparing, storms, stuckness, sureness, telling, tightness, timetables, unity, valleys,
                         verdicts, waits, walknotes, walks, watches, weaving, winning)
from millsluices.calendars import Calendar
from millsluices.errors import NothingRuns, NotRunning
from millsluices.habits import Habit
from millsluices.plans import Plan
from millsluices.seasons import Season
from millsluices.valleys import Valley
from millsluices.watches import Watch
from plain import as_lists, only_tuples

RING = Valley.ring(3)
LOW = Season(RING, needs=[1, 1, 0])
FULL = Season(RING, needs=[1, 1, 1])
SIDE = Season(Valley(3, ((1, 2), (1, 2), (0, 1))), needs=(0, 1, 1))
ZERO, ONE, UP = (0, 0, 0), (1, 1, 1), (0, 0, 1)
TABLE = ((ZERO, 0), (UP, 5), ((1, 0, 1), 6), (ONE, 7))
WIDE = Season(RING.built([(0, 1)]), needs=[1, 1, 1])
WISH = Season(WIDE.valley, needs=[1, 2, 1])
FOUR, GOAL = (0, 0, 0, 0), (0, 0, 0, 1)
PLAN_ROWS = ((FOUR, (), 3), (FOUR, (3,), 0))
PLAN = Plan(PLAN_ROWS)
EVENINGS = (((), FOUR, GOAL), ((0,), GOAL, GOAL), ((1,), GOAL, GOAL), ((2,), GOAL, GOAL), ((3,), GOAL, GOAL))
HARD = Season.only(WIDE.valley, FOUR)
ATTACKS = attacks.attack_table(WIDE, [WISH, HARD], FOUR, most=2)
LATER = Season(RING, needs=[0, 1, 1])
YEAR = Calendar.yearly([LOW, LATER])
LASTING = lasting.lasting(YEAR, turns=1)
FALLS = falling.fall_table(YEAR, turns=0)
HOLDS = ((FOUR, FOUR), ((1, 0, 0, 0), (1, 0, 0, 0)))
STORMS = storms.storm_table(LOW, (0, 2))
MOVES = ((0, 0, 0), (0, 1, 0), (0, 2, 1), (1, 2, 0))
HABIT, MILD = Habit(MOVES), Habit(((0, 2, 1), (1, 2, 0)))
PAIRS = ((ZERO, 0), (UP, 1))
GUARDED = guarding.guarded(LOW, HABIT, (2,))
WATCH = Watch(LOW, (Season.only(RING, ZERO), Season(RING, limits=(1, None, 0))))
WISH_LOW = Season(RING, needs=(0, 2, 0))
OPEN = Watch(LOW, (Season(RING), LATER, Season(RING)), turns=1)
NEEDY = Season(RING, needs=(1, 0, 0))
WOVEN = ((0,), (2, 2))
ALIKE = ((ZERO, ZERO), (ZERO, ONE), (ONE, ONE))
THREE = (ZERO, UP, ONE)
GROPING = ((THREE, 0), ((ZERO, ONE), 1))


def entered(deed):
    """The daybook after the deed."""
    book = daybooks.Daybook(LOW, ZERO)
    book.enter(deed)
    return book


def performed(program):
    """The result of the program, and the daybook after it."""
    book = daybooks.Daybook(LOW, ZERO)
    return daybooks.perform(book, program), book


# Each row has what is called, its arguments in their order by name, and those of them that are sets or tables.
CALLS = [
    (valleys.Valley, {"mills": 3, "sluices": ((0, 1), (1, 2))}, ()),
    (RING.touching, {"mill": 1}, ()),
    (RING.other, {"sluice": 1, "mill": 1}, ()),
    (RING.built, {"pairs": ((0, 1), (2, 1))}, ()),
    (RING.without, {"sluices": (0, 2)}, ("sluices",)),
    (Valley.ring, {"mills": 4}, ()),
    (Valley.row, {"mills": 4}, ()),
    (settings.feeds, {"valley": RING, "setting": UP, "sluice": 2}, ()),
    (settings.fed, {"valley": RING, "setting": UP}, ()),
    (settings.turned, {"setting": UP, "turns": (2, 0, 2)}, ()),
    (settings.differing, {"one": UP, "two": ONE}, ()),
    (settings.settings, {"valley": RING}, ()),
    (settings.is_setting, {"valley": RING, "value": UP}, ()),
    (LOW.out, {"setting": (0, 1, 1)}, ()),
    (FULL.pinned((0, 0, 0), (0, 1)).strayed, {"setting": ONE}, ()),
    (LOW.pinned, {"setting": UP, "sluices": (0, 2)}, ("sluices",)),
    (LOW.pinned(UP, (0, 1, 2)).freed, {"sluices": (0, 2)}, ("sluices",)),
    (FULL.resting, {"lot": (0, 2)}, ("lot",)),
    (FULL.loosened, {"lowered": (0, 0, 2), "raised": (1,)}, ()),
    (FULL.built, {"pairs": ((0, 1), (2, 1))}, ()),
    (FULL.without, {"sluices": (0, 2)}, ("sluices",)),
    (Season.only, {"valley": RING, "setting": UP}, ()),
    (lots.gain, {"season": LOW, "lot": (0, 2)}, ("lot",)),
    (lots.load, {"season": LOW, "lot": (0, 2)}, ("lot",)),
    (lots.want, {"season": LOW, "lot": (0, 2)}, ("lot",)),
    (lots.bear, {"season": Season(RING, limits=(1, 2, 3)), "lot": (0, 2)}, ("lot",)),
    (lots.is_obstacle, {"season": Season(RING, needs=(2, 2, 0)), "value": ("wants", (0, 1))}, ()),
    (running.obstacle, {"season": Season(RING, needs=(2, 2, 0))}, ()),
    (running.first_running, {"season": LOW}, ()),
    (running.running, {"season": LOW}, ()),
    (running.running_count, {"season": LOW}, ()),
    (tightness.greatest_tight_below, {"season": FULL}, ()),
    (tightness.greatest_tight_above, {"season": FULL}, ()),
    (tightness.least_tight_below, {"season": FULL, "mill": 1}, ()),
    (tightness.least_tight_above, {"season": FULL, "mill": 1}, ()),
    (sureness.sure_sides, {"season": LOW}, ()),
    (sureness.fed_range, {"season": LOW, "mill": 1}, ()),
    (sureness.tightened, {"season": LOW}, ()),
    (sureness.parting, {"one": LOW, "two": FULL}, ()),
    (sureness.same_running, {"one": LOW, "two": FULL}, ()),
    (walks.is_walk, {"season": LOW, "setting": ZERO, "turns": (2, 0)}, ()),
    (walks.follow, {"season": LOW, "setting": ZERO, "turns": (2, 0)}, ()),
    (walks.turnable, {"season": LOW, "setting": UP}, ()),
    (stuckness.starved, {"season": FULL, "setting": ZERO}, ()),
    (stuckness.saturated, {"season": FULL, "setting": ZERO}, ()),
    (stuckness.stuck, {"season": FULL, "setting": ZERO}, ()),
    (stuckness.loose, {"season": LOW, "setting": ZERO}, ()),
    (connections.connect, {"season": LOW, "one": ZERO, "two": ONE}, ()),
    (connections.connect, {"season": FULL, "one": ZERO, "two": ONE}, ()),
    (blockades.is_blockade, {"season": FULL, "setting": ZERO, "low": (0, 1, 2), "high": ()}, ("low",)),
    (blockades.is_blockade, {"season": Season(RING, limits=(1, 1, 1)), "setting": ZERO, "low": (), "high": (0, 1, 2)},
     ("high",)),
    (blockades.blocked_by, {"season": Season(RING), "low": (0,), "high": (1,)}, ("low", "high")),
    (classes.class_key, {"season": FULL, "setting": ONE}, ()),
    (classes.class_season, {"season": FULL, "setting": ONE}, ()),
    (classes.first_in_class, {"season": LOW, "setting": ONE}, ()),
    (classes.class_size, {"season": LOW, "setting": ZERO}, ()),
    (classes.classes, {"season": FULL}, ()),
    (unity.unity, {"season": FULL}, ()),
    (unity.unity, {"season": LOW}, ()),
    (orders.any_order, {"season": LOW, "setting": UP, "sluices": (0, 2)}, ("sluices",)),
    (orders.bad_order, {"season": LOW, "setting": ZERO, "sluices": (0, 1, 2)}, ("sluices",)),
    (orders.some_order, {"season": LOW, "setting": ZERO, "sluices": (0, 1, 2)}, ("sluices",)),
    (distances.distance, {"season": LOW, "one": ZERO, "two": ONE, "prices": (1, 2, 3)}, ()),
    (distances.distances, {"season": LOW, "goal": ZERO, "prices": (1, 1, 5)}, ()),
    (distances.is_distance_table, {"season": LOW, "goal": ZERO, "table": TABLE, "prices": (1, 1, 5)}, ()),
    (distances.within, {"season": LOW, "setting": ZERO, "turns": 2}, ()),
    (distances.farthest, {"season": LOW, "setting": ZERO}, ()),
    (detours.least_detour, {"season": SIDE, "one": (0, 1, 0), "two": (1, 0, 0), "prices": (1, 2, 3)}, ()),
    (detours.is_detour, {"season": SIDE, "one": (0, 1, 0), "two": (1, 0, 0), "sluices": (2,)}, ("sluices",)),
    (shortest.shortest_walk, {"season": SIDE, "one": (0, 1, 0), "two": (1, 0, 0), "prices": (1, 2, 3)}, ()),
    (shortest.walk_count, {"season": SIDE, "one": (0, 1, 0), "two": (1, 0, 0)}, ()),
    (rests.least_rests, {"season": FULL, "one": ZERO, "two": ONE}, ()),
    (rests.fewest_rests, {"season": FULL, "one": ZERO, "two": ONE}, ()),
    (rests.must_rest, {"season": FULL, "one": ZERO, "two": ONE}, ()),
    (outs.greatest_out, {"season": FULL, "setting": ZERO, "turns": (0, 1)}, ()),
    (outs.outs_needed, {"season": FULL, "one": ZERO, "two": ONE}, ()),
    (outs.strained_turns, {"season": FULL, "one": ZERO, "two": ONE}, ()),
    (outs.strained_turns, {"season": LOW, "one": ZERO, "two": ONE}, ()),
    (fits.fit, {"season": WIDE, "wish": WISH, "setting": FOUR}, ()),
    (fits.fit, {"season": FULL, "wish": LATER.pinned(ONE, (0,)), "setting": ZERO}, ()),
    (fits.meeting_season, {"season": WIDE, "wish": WISH, "setting": FOUR}, ()),
    (jams.survives, {"season": WIDE, "wishes": (WISH, HARD), "setting": FOUR, "jam": (0, 3)}, ("jam", "wishes")),
    (jams.fatal_jams, {"season": WIDE, "wishes": (WISH, HARD), "setting": FOUR, "most": 3}, ("wishes",)),
    (jams.jam_strength, {"season": WIDE, "wishes": (WISH,), "setting": FOUR}, ("wishes",)),
    (jams.stoutest, {"season": WIDE, "wishes": (WISH, HARD), "setting": FOUR}, ("wishes",)),
    (plans.Plan, {"rows": PLAN_ROWS}, ()),
    (PLAN, {"setting": FOUR, "known": (3,)}, ()),
    (plans.follow_plan, {"plan": PLAN, "setting": FOUR, "jam": (1, 3)}, ("jam",)),
    (plans.is_plan, {"season": WIDE, "wish": WISH, "setting": FOUR, "plan": PLAN, "most": 1}, ()),
    (plans.find_plan, {"season": WIDE, "wish": WISH, "setting": FOUR, "most": 1}, ()),
    (evenings.withstands, {"season": WIDE, "wishes": (WISH,), "setting": FOUR, "most": 1}, ("wishes",)),
    (evenings.evening_table, {"season": WIDE, "wishes": (WISH,), "setting": FOUR, "most": 1}, ("wishes",)),
    (evenings.is_evening_table, {"season": WIDE, "wishes": (WISH,), "setting": FOUR, "rows": EVENINGS, "most": 1},
     ("rows", "wishes")),
    (attacks.attack_table, {"season": WIDE, "wishes": (WISH, HARD), "setting": FOUR, "most": 2}, ("wishes",)),
    (attacks.is_attack_table, {"season": WIDE, "wishes": (WISH, HARD), "setting": FOUR, "rows": ATTACKS, "most": 2},
     ("rows", "wishes")),
    (calendars.Calendar, {"seasons": (LOW, LATER), "follows": ((1, 0), (0, 0))}, ()),
    (Calendar.yearly, {"seasons": (LOW, LATER, FULL)}, ()),
    (lasting.lasting, {"calendar": YEAR, "notice": False, "turns": 1}, ()),
    (lasting.lasts, {"calendar": YEAR, "index": 0, "setting": UP, "notice": True, "turns": 0}, ()),
    (lasting.is_lasting_table, {"calendar": YEAR, "table": LASTING, "notice": True, "turns": 1}, ()),
    (lasting.change_setting, {"calendar": YEAR, "index": 0, "setting": UP, "later": 1, "turns": 1}, ()),
    (falling.falls_after, {"calendar": YEAR, "index": 0, "setting": UP, "notice": True, "turns": 0}, ()),
    (falling.fall_table, {"calendar": YEAR, "notice": False, "turns": 0}, ()),
    (falling.is_fall_table, {"calendar": YEAR, "rows": FALLS, "notice": True, "turns": 0}, ("rows",)),
    (timetables.timetable, {"seasons": (LOW, LATER, FULL), "setting": UP, "turns": None}, ()),
    (timetables.timetable, {"seasons": (LOW, LATER, FULL), "setting": UP, "turns": 0}, ()),
    (timetables.is_timetable, {"seasons": (LOW, LATER), "setting": UP, "changes": (ZERO,), "turns": 1}, ()),
    (nights.nights, {"season": WIDE, "setting": FOUR, "foes": (0, 3), "most": 2}, ("foes",)),
    (nights.braced, {"season": WIDE, "setting": FOUR, "foes": (0, 3), "most": 2}, ("foes",)),
    (holding.holding, {"season": WIDE, "foes": (0, 3), "most": 1, "turns": 1, "shared": True}, ("foes",)),
    (holding.holds, {"season": WIDE, "setting": FOUR, "foes": (0, 3), "most": 1, "turns": 1, "shared": False},
     ("foes",)),
    (holding.hold_table, {"season": WIDE, "setting": FOUR, "foes": (0, 3), "most": 1, "turns": 1, "shared": True},
     ("foes",)),
    (holding.is_hold_table, {"season": WIDE, "setting": FOUR, "foes": (0,), "rows": HOLDS, "most": 1, "turns": 0,
                             "shared": False}, ("foes", "rows")),
    (storms.falls_within, {"season": LOW, "setting": UP, "foes": (0, 2), "most": 1, "turns": 0, "shared": False},
     ("foes",)),
    (storms.storm_table, {"season": LOW, "foes": (0, 2), "most": 1, "turns": 0, "shared": False}, ("foes",)),
    (storms.is_storm_table, {"season": LOW, "foes": (0, 2), "rows": STORMS, "most": 1, "turns": None,
                             "shared": False}, ("foes", "rows")),
    (winning.wins_after, {"season": LOW, "wish": LATER, "setting": UP, "foes": (0,), "most": 0, "turns": 1,
                          "shared": True}, ("foes",)),
    (buying.fewest_to_buy, {"season": LOW, "setting": UP, "foes": (0, 2), "most": 1, "turns": 1}, ("foes",)),
    (habits.Habit, {"moves": MOVES}, ("moves",)),
    (HABIT.after, {"state": 0, "sluice": 2}, ()),
    (HABIT.state_after, {"turns": (2, 2, 0)}, ()),
    (harms.harm, {"season": LOW, "setting": ZERO, "habit": HABIT}, ()),
    (harms.is_harmless_table, {"season": LOW, "setting": ZERO, "habit": MILD, "table": PAIRS}, ("table",)),
    (harms.reached_pairs, {"season": LOW, "setting": ZERO, "habit": HABIT}, ()),
    (guarding.guarded, {"season": LOW, "habit": HABIT, "foes": (2,)}, ("foes",)),
    (guarding.is_guard_table, {"season": LOW, "habit": HABIT, "foes": (2,), "table": GUARDED}, ("foes", "table")),
    (guarding.guard_lets, {"season": LOW, "habit": HABIT, "foes": (2, 1), "setting": UP, "state": 0}, ("foes",)),
    (guarding.guarded_reach, {"season": LOW, "habit": HABIT, "foes": (2,), "setting": UP}, ("foes",)),
    (partings.parting_row, {"season": LOW, "setting": UP, "one": HABIT, "two": MILD}, ()),
    (watches.Watch, {"rule": LOW, "reports": (FULL, LATER), "turns": 2}, ()),
    (watches.is_history, {"watch": WATCH, "history": (ZERO, ((2, 0),))}, ()),
    (watches.day_settings, {"history": (ZERO, ((2, 0), (), (1,)))}, ()),
    (possible.possible, {"watch": OPEN, "day": 1}, ()),
    (possible.history_through, {"watch": OPEN, "day": 1, "setting": ZERO}, ()),
    (verdicts.verdict, {"watch": OPEN, "day": 2, "claim": WISH_LOW}, ()),
    (nightturns.least_turns, {"watch": WATCH}, ()),
    (nightturns.least_history, {"watch": WATCH}, ()),
    (nightturns.surely_turned, {"watch": WATCH}, ()),
    (nightturns.never_turned, {"watch": OPEN}, ()),
    (hearing.tells, {"watch": OPEN, "day": 0, "lot": (0, 1), "claim": LATER}, ("lot",)),
    (hearing.blind_pair, {"watch": OPEN, "day": 0, "lot": (0,), "claim": WISH_LOW}, ("lot",)),
    (hearing.fewest_heard, {"watch": OPEN, "day": 0, "claim": LATER}, ()),
    (weaving.setting_at, {"setting": UP, "rows": WOVEN, "position": (1, 1)}, ()),
    (weaving.always_safe, {"season": NEEDY, "setting": UP, "rows": WOVEN}, ()),
    (weaving.bad_weaving, {"season": NEEDY, "setting": UP, "rows": WOVEN}, ()),
    (weaving.safe_weaving, {"season": NEEDY, "setting": UP, "rows": WOVEN}, ()),
    (weaving.weaving_count, {"season": NEEDY, "setting": UP, "rows": WOVEN}, ()),
    (waits.secures, {"season": NEEDY, "setting": UP, "rows": WOVEN, "waits": ((0, 0, 1, 1), (0, 0, 1, 2))},
     ("waits",)),
    (waits.waits_for, {"season": NEEDY, "setting": UP, "rows": WOVEN}, ()),
    (waits.fewest_waits, {"season": NEEDY, "setting": UP, "rows": WOVEN}, ()),
    (building.shortfall, {"season": Season(RING, needs=(2, 2, 1))}, ()),
    (building.wanting_lot, {"season": Season(RING, needs=(2, 2, 1))}, ()),
    (building.mending, {"season": Season(RING, needs=(2, 2, 1))}, ()),
    (freeing.least_tight_lots, {"season": FULL}, ()),
    (freeing.freeing, {"season": FULL}, ()),
    (loosening.loosenings, {"season": FULL & Season(RING, limits=(1, 1, 1))}, ()),
    (loosening.loosening_count, {"season": FULL & Season(RING, limits=(1, 1, 1))}, ()),
    (sparing.closable, {"season": LOW}, ()),
    (sparing.cleanable, {"season": LOW, "setting": UP}, ()),
    (chances.share, {"season": LOW, "setting": UP, "wish": LATER}, ()),
    (chances.chance, {"season": LOW, "setting": UP, "wish": LATER, "hours": 3}, ()),
    (daybooks.Daybook, {"season": LOW, "setting": UP}, ()),
    (entered, {"deed": ("walk", (2, 0))}, ()),
    (entered, {"deed": ("jam", (2, 0, 2))}, ()),
    (entered, {"deed": ("go", ONE)}, ()),
    (performed, {"program": (("turn", 2), ("trial", (("jam", (1, 0)), ("undo",), ("walk", (0, 1)))), ("undo",))}, ()),
    (seasonnotes.format_season, {"season": LATER.pinned(ONE, (0,))}, ()),
    (seasonnotes.parse_season, {"text": "mills 3\nsluice 0 1 side 1\nsluice 2 1\nneed 1 2\nlimit 2 0"}, ()),
    (walknotes.format_setting, {"setting": UP}, ()),
    (walknotes.parse_setting, {"valley": RING, "text": "011"}, ()),
    (walknotes.format_turns, {"turns": (2, 0, 2)}, ()),
    (walknotes.parse_turns, {"valley": RING, "text": "2 0 2"}, ()),
    (longnotes.format_history, {"history": (ZERO, ((2, 0), (), (1,)))}, ()),
    (longnotes.parse_history, {"valley": RING, "text": "001\n2 0\n"}, ()),
    (longnotes.format_plan, {"plan": PLAN}, ()),
    (longnotes.parse_plan, {"valley": RING, "text": "001 - 1\n010 0,2 1"}, ()),
    (rounds.safe_rounds, {"season": NEEDY, "setting": UP, "hands": 2}, ()),
    (rounds.are_rounds, {"season": Season(RING), "setting": UP, "rounds": ((0, 1), (2,)), "hands": 2}, ()),
    (rounds.fewest_rounds, {"season": NEEDY, "one": ZERO, "two": ONE, "hands": None}, ()),
    (rounds.first_rounds, {"season": NEEDY, "one": ZERO, "two": ONE, "hands": 2}, ()),
    (catches.tried, {"season": LOW, "setting": ZERO, "tries": (0, 2, 0)}, ()),
    (telling.telling_tries, {"season": LOW, "one": ZERO, "two": ONE}, ()),
    (telling.alike_groups, {"season": FULL}, ()),
    (telling.is_alike_table, {"season": FULL, "table": ALIKE}, ("table",)),
    (groping.remaining, {"season": LOW, "candidates": THREE, "tries": (0, 1), "answers": (False, False)},
     ("candidates",)),
    (groping.follow_groping, {"season": LOW, "plan": GROPING, "candidates": THREE, "setting": ONE}, ("candidates",)),
    (groping.is_groping_plan, {"season": LOW, "candidates": THREE, "plan": GROPING}, ("candidates", "plan")),
    (groping.fewest_tries, {"season": LOW, "candidates": THREE}, ("candidates",)),
    (groping.groping_plan, {"season": LOW, "candidates": THREE}, ("candidates",)),
]

# What can be read of the objects that callers create.
FIELDS = {Valley: ("mills", "sluices"), Season: ("valley", "needs", "limits", "sides"), Plan: ("rows",),
          Calendar: ("seasons", "follows"), Habit: ("moves",), Watch: ("rule", "reports", "turns"),
          daybooks.Daybook: ("season", "setting", "jam", "deeds")}


def fields(value):
    """The value with the fields of objects instead of the objects."""
    if isinstance(value, (tuple, list)):
        return value.__class__(fields(item) for item in value)
    if hasattr(value, "__dict__"):
        return tuple((name, fields(getattr(value, name))) for name in FIELDS.get(value.__class__, sorted(vars(value))))
    return value


def outcome(call, *args, **named):
    """What the call returns, in a form that can be compared: of generators all items, of objects the fields."""
    found = call(*args, **named)
    return fields(tuple(found) if inspect.isgenerator(found) else found)


def listed(named):
    return {name: as_lists(value) for name, value in named.items()}


def spoil(value):
    """Change the list at every level."""
    if isinstance(value, list):
        for item in value:
            spoil(item)
        value.reverse()
        value.append(0)


def named_alone(call):
    """The names of the parameters that are passed by name alone."""
    return [word.name for word in inspect.signature(call).parameters.values() if word.kind == word.KEYWORD_ONLY]


class CallsTest(unittest.TestCase):
    def test_by_place_and_by_name(self):
        for call, named, _ in CALLS:
            placed = [value for name, value in named.items() if name not in named_alone(call)]
            keyed = {name: value for name, value in named.items() if name in named_alone(call)}
            with self.subTest(call):
                self.assertEqual(outcome(call, *placed, **keyed), outcome(call, **named))

    def test_what_stands_behind_a_star_is_passed_by_name_alone(self):
        words = set()
        for call, named, _ in CALLS:
            if named_alone(call):
                words.update(named_alone(call))
                with self.subTest(call), self.assertRaises(TypeError):
                    outcome(call, *named.values())
        self.assertTrue({"prices", "most", "notice", "turns", "shared", "hands"} <= words)

    def test_tuples_at_every_level_are_returned(self):
        for call, named, _ in CALLS:
            with self.subTest(call):
                self.assertTrue(only_tuples(outcome(call, **named)))
                self.assertTrue(only_tuples(outcome(call, **listed(named))))

    def test_lists_count_like_tuples(self):
        for call, named, _ in CALLS:
            with self.subTest(call):
                self.assertEqual(outcome(call, **listed(named)), outcome(call, **named))

    def test_arguments_are_left_as_they_were(self):
        for call, named, _ in CALLS:
            passed = listed(named)
            before = copy.deepcopy(passed)
            outcome(call, **passed)
            with self.subTest(call):
                self.assertEqual(passed, before)

    def test_sets_and_tables_in_any_order_and_repeated(self):
        rng = random.Random(1)
        for call, named, sets in CALLS:
            for name in sets:
                mixed = [*named[name], *named[name], named[name][0]]
                rng.shuffle(mixed)
                with self.subTest(call):
                    self.assertEqual(outcome(call, **{**named, name: mixed}), outcome(call, **named))

    def test_the_same_question_again_gives_the_same_answer(self):
        for call, named, _ in CALLS:
            with self.subTest(call):
                self.assertEqual(outcome(call, **named), outcome(call, **named))

    def test_what_was_returned_is_not_changed_by_later_changes_of_arguments(self):
        for call, named, _ in CALLS:
            passed = listed(named)
            found = call(**passed)
            if not inspect.isgenerator(found):
                before = outcome(lambda: found)
                for value in passed.values():
                    spoil(value)
                with self.subTest(call):
                    self.assertEqual(outcome(lambda: found), before)

    def test_narrowed(self):
        self.assertEqual(seasons.narrowed(first=LOW), LOW)
        self.assertEqual(seasons.narrowed(LOW, FULL, LOW), FULL)


class ErrorFieldsTest(unittest.TestCase):
    def test_settings_in_errors_are_tuples(self):
        for call, named, _ in CALLS:
            names = [name for name in ("setting", "one", "goal") if named.get(name) in (ZERO, UP)]
            if "season" in named and names:
                passed = {**listed(named), names[0]: [0, 1, 1]}
                try:
                    outcome(call, **passed)
                except NotRunning as error:
                    with self.subTest(call):
                        self.assertEqual(error.setting, (0, 1, 1))
                        self.assertTrue(only_tuples(error.setting))

    def test_errors_change_nothing(self):
        season = Season(RING, needs=[2, 2, 0])
        for call in (tightness.greatest_tight_below, sureness.sure_sides, sureness.tightened):
            with self.assertRaises(NothingRuns):
                call(season)
            self.assertEqual(season, Season(RING, needs=[2, 2, 0]))


if __name__ == "__main__":
    unittest.main()
