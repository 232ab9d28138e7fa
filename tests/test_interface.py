"""The names, parameters and places of the document's interface."""

import importlib
import inspect
import unittest

FUNCTIONS = {
    "settings": ["feeds(valley, setting, sluice)", "fed(valley, setting)", "turned(setting, turns)",
                 "differing(one, two)", "settings(valley)", "is_setting(valley, value)"],
    "seasons": ["narrowed(first, *others)"],
    "lots": ["gain(season, lot)", "load(season, lot)", "want(season, lot)", "bear(season, lot)",
             "is_obstacle(season, value)"],
    "running": ["obstacle(season)", "first_running(season)", "running(season)", "running_count(season)"],
    "tightness": ["greatest_tight_below(season)", "greatest_tight_above(season)", "least_tight_below(season, mill)",
                  "least_tight_above(season, mill)"],
    "sureness": ["sure_sides(season)", "fed_range(season, mill)", "tightened(season)", "parting(one, two)",
                 "same_running(one, two)"],
    "walks": ["is_walk(season, setting, turns)", "follow(season, setting, turns)", "turnable(season, setting)"],
    "stuckness": ["starved(season, setting)", "saturated(season, setting)", "stuck(season, setting)",
                  "loose(season, setting)"],
    "connections": ["connect(season, one, two)"],
    "blockades": ["is_blockade(season, setting, low, high)", "blocked_by(season, low, high)"],
    "classes": ["class_key(season, setting)", "class_season(season, setting)", "first_in_class(season, setting)",
                "class_size(season, setting)", "classes(season)"],
    "unity": ["unity(season)"],
    "orders": ["any_order(season, setting, sluices)", "bad_order(season, setting, sluices)",
               "some_order(season, setting, sluices)"],
    "distances": ["distance(season, one, two, *, prices=None)", "distances(season, goal, *, prices=None)",
                  "is_distance_table(season, goal, table, *, prices=None)", "within(season, setting, turns=None)",
                  "farthest(season, setting)"],
    "detours": ["least_detour(season, one, two, *, prices=None)", "is_detour(season, one, two, sluices)"],
    "shortest": ["shortest_walk(season, one, two, *, prices=None)", "walk_count(season, one, two)"],
    "rests": ["least_rests(season, one, two)", "fewest_rests(season, one, two)", "must_rest(season, one, two)"],
    "outs": ["greatest_out(season, setting, turns)", "outs_needed(season, one, two)",
             "strained_turns(season, one, two)"],
    "fits": ["fit(season, wish, setting)", "meeting_season(season, wish, setting)"],
    "jams": ["survives(season, wishes, setting, jam)", "fatal_jams(season, wishes, setting, *, most)",
             "jam_strength(season, wishes, setting)", "stoutest(season, wishes, setting)"],
    "plans": ["follow_plan(plan, setting, jam)", "is_plan(season, wish, setting, plan, *, most)",
              "find_plan(season, wish, setting, *, most)"],
    "evenings": ["withstands(season, wishes, setting, *, most)", "evening_table(season, wishes, setting, *, most)",
                 "is_evening_table(season, wishes, setting, rows, *, most)"],
    "attacks": ["attack_table(season, wishes, setting, *, most)",
                "is_attack_table(season, wishes, setting, rows, *, most)"],
    "lasting": ["lasting(calendar, *, notice=True, turns=None)",
                "lasts(calendar, index, setting, *, notice=True, turns=None)",
                "is_lasting_table(calendar, table, *, notice=True, turns=None)",
                "change_setting(calendar, index, setting, later, *, turns=None)"],
    "falling": ["falls_after(calendar, index, setting, *, notice=True, turns=None)",
                "fall_table(calendar, *, notice=True, turns=None)",
                "is_fall_table(calendar, rows, *, notice=True, turns=None)"],
    "timetables": ["timetable(seasons, setting, *, turns=None)",
                   "is_timetable(seasons, setting, changes, *, turns=None)"],
    "nights": ["nights(season, setting, foes, *, most=1)", "braced(season, setting, foes, *, most=1)"],
    "holding": ["holding(season, foes, *, most=1, turns=None, shared=False)",
                "holds(season, setting, foes, *, most=1, turns=None, shared=False)",
                "hold_table(season, setting, foes, *, most=1, turns=None, shared=False)",
                "is_hold_table(season, setting, foes, rows, *, most=1, turns=None, shared=False)"],
    "storms": ["falls_within(season, setting, foes, *, most=1, turns=None, shared=False)",
               "storm_table(season, foes, *, most=1, turns=None, shared=False)",
               "is_storm_table(season, foes, rows, *, most=1, turns=None, shared=False)"],
    "winning": ["wins_after(season, wish, setting, foes, *, most=1, turns=None, shared=False)"],
    "buying": ["fewest_to_buy(season, setting, foes, *, most=1, turns=None)"],
    "harms": ["harm(season, setting, habit)", "is_harmless_table(season, setting, habit, table)",
              "reached_pairs(season, setting, habit)"],
    "guarding": ["guarded(season, habit, foes)", "is_guard_table(season, habit, foes, table)",
                 "guard_lets(season, habit, foes, setting, state)", "guarded_reach(season, habit, foes, setting)"],
    "partings": ["parting_row(season, setting, one, two)"],
    "watches": ["is_history(watch, history)", "day_settings(history)"],
    "possible": ["possible(watch, day)", "history_through(watch, day, setting)"],
    "verdicts": ["verdict(watch, day, claim)"],
    "nightturns": ["least_turns(watch)", "least_history(watch)", "surely_turned(watch)", "never_turned(watch)"],
    "hearing": ["tells(watch, day, lot, claim)", "blind_pair(watch, day, lot, claim)",
                "fewest_heard(watch, day, claim)"],
    "weaving": ["setting_at(setting, rows, position)", "always_safe(season, setting, rows)",
                "bad_weaving(season, setting, rows)", "safe_weaving(season, setting, rows)",
                "weaving_count(season, setting, rows)"],
    "waits": ["secures(season, setting, rows, waits)", "waits_for(season, setting, rows)",
              "fewest_waits(season, setting, rows)"],
    "building": ["shortfall(season)", "wanting_lot(season)", "mending(season)"],
    "freeing": ["least_tight_lots(season)", "freeing(season)"],
    "loosening": ["loosenings(season)", "loosening_count(season)"],
    "sparing": ["closable(season)", "cleanable(season, setting)"],
    "chances": ["share(season, setting, wish)", "chance(season, setting, wish, hours)"],
    "daybooks": ["perform(book, program)"],
    "seasonnotes": ["format_season(season)", "parse_season(text)"],
    "walknotes": ["format_setting(setting)", "parse_setting(valley, text)", "format_turns(turns)",
                  "parse_turns(valley, text)"],
    "longnotes": ["format_history(history)", "parse_history(valley, text)", "format_plan(plan)",
                  "parse_plan(valley, text)"],
    "rounds": ["safe_rounds(season, setting, *, hands=None)", "are_rounds(season, setting, rounds, *, hands=None)",
               "fewest_rounds(season, one, two, *, hands=None)", "first_rounds(season, one, two, *, hands=None)"],
    "catches": ["tried(season, setting, tries)"],
    "telling": ["telling_tries(season, one, two)", "alike_groups(season)", "is_alike_table(season, table)"],
    "groping": ["remaining(season, candidates, tries, answers)", "follow_groping(season, plan, candidates, setting)",
                "is_groping_plan(season, candidates, plan)", "fewest_tries(season, candidates)",
                "groping_plan(season, candidates)"],
}
METHODS = {
    ("valleys", "Valley"): ["__init__(self, mills, sluices=())", "touching(self, mill)", "other(self, sluice, mill)",
                            "built(self, pairs)", "without(self, sluices)", "ring(mills)", "row(mills)"],
    ("seasons", "Season"): ["__init__(self, valley, *, needs=None, limits=None, sides=None)", "out(self, setting)",
                            "strayed(self, setting)", "pinned(self, setting, sluices)", "freed(self, sluices)",
                            "resting(self, lot)", "loosened(self, lowered, raised)", "built(self, pairs)",
                            "without(self, sluices)", "only(valley, setting)"],
    ("plans", "Plan"): ["__init__(self, rows)", "__call__(self, setting, known)"],
    ("calendars", "Calendar"): ["__init__(self, seasons, follows)", "yearly(seasons)"],
    ("habits", "Habit"): ["__init__(self, moves)", "after(self, state, sluice)", "state_after(self, turns)"],
    ("watches", "Watch"): ["__init__(self, rule, reports, *, turns=None)"],
    ("daybooks", "Daybook"): ["__init__(self, season, setting)", "enter(self, deed)", "undo(self)"],
    ("daybooks", "Trial"): ["__init__(self, book)"],
}
OTHERS = {
    ("valleys", "Valley"): ["parts", "__add__", "__len__", "__iter__", "__eq__"],
    ("seasons", "Season"): ["rigid", "unset", "__contains__", "__and__", "__or__", "__eq__"],
    ("connections", "Connection"): [],
    ("unity", "Unity"): [],
    ("fits", "Fit"): [],
    ("plans", "Plan"): ["__len__", "__iter__", "__eq__"],
    ("calendars", "Calendar"): ["__len__", "__iter__", "__eq__"],
    ("timetables", "Timetable"): [],
    ("habits", "Habit"): ["__eq__"],
    ("watches", "Watch"): ["__add__", "__len__", "__iter__", "__eq__"],
    ("verdicts", "Verdict"): [],
    ("daybooks", "Daybook"): ["__len__", "__iter__"],
    ("daybooks", "Trial"): ["__enter__", "__exit__"],
}
GENERATORS = ("settings", "running", "classes", "least_rests", "fatal_jams")


def module(name):
    return importlib.import_module(f"millsluices.{name}")


class InterfaceTest(unittest.TestCase):
    def test_functions(self):
        for name, rows in FUNCTIONS.items():
            for row in rows:
                called = row.split("(")[0]
                function = getattr(module(name), called)
                with self.subTest(row):
                    self.assertEqual(called + str(inspect.signature(function)), row)
                    self.assertEqual(function.__module__, f"millsluices.{name}")
                    self.assertEqual(inspect.isgeneratorfunction(function), called in GENERATORS)

    def test_methods_are_defined_in_their_class(self):
        for (name, kind), rows in METHODS.items():
            for row in rows:
                called = row.split("(")[0]
                method = getattr(module(name), kind)
                with self.subTest(kind=kind, row=row):
                    self.assertTrue(called in vars(method))
                    self.assertEqual(called + str(inspect.signature(getattr(method, called))), row)

    def test_classes_operators_and_properties(self):
        for (name, kind), words in OTHERS.items():
            found = getattr(module(name), kind)
            self.assertEqual(found.__module__, f"millsluices.{name}")
            for word in words:
                with self.subTest(kind=kind, word=word):
                    self.assertTrue(word in vars(found))


if __name__ == "__main__":
    unittest.main()
