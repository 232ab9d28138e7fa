"""Points 60 and 61: daybooks, trials and programs."""

import random
import unittest

from millsluices import errors
from millsluices.daybooks import Daybook, Trial, perform
from millsluices.errors import (BadWalk, Jammed, NothingToUndo, NotRunning, NoWay, SluiceError, ValleysDiffer,
                                WouldStop)
from millsluices.seasons import Season
from millsluices.stuckness import stuck
from millsluices.valleys import Valley
from plain import (all_running, all_settings, flips, jammed_ball, large_season, only_tuples, random_season,
                   random_valley, runs, walkable)

RING = Valley.ring(3)
LOW = Season(RING, needs=[1, 1, 0])
FULL = Season(RING, needs=[1, 1, 1])
FREE = Season(RING)
WIDE = Season(RING.built([(0, 1)]), needs=[1, 1, 1])
ZERO, UP, ONE = (0, 0, 0), (0, 0, 1), (1, 1, 1)


def state(book):
    return book.season, book.setting, book.jam, book.deeds, len(book), tuple(book)


class DaybookTest(unittest.TestCase):
    def fails(self, book, deed, kind, *fields):
        """The deed raises the error with the fields, and changes nothing."""
        before = state(book)
        with self.assertRaises(SluiceError) as caught:
            book.enter(deed)
        self.assertIs(caught.exception.__class__, kind)
        self.assertEqual(tuple(vars(caught.exception).values()), fields)
        self.assertTrue(only_tuples(tuple(vars(caught.exception).values())))
        self.assertEqual(state(book), before)

    def test_at_the_beginning(self):
        book = Daybook(LOW, [0, 0, 0])
        self.assertEqual(state(book), (LOW, ZERO, (), (), 0, ()))
        self.assertEqual(state(Daybook(season=LOW, setting=ZERO)), state(book))
        with self.assertRaises(NotRunning) as caught:
            Daybook(LOW, [0, 1, 1])
        self.assertEqual(caught.exception.setting, (0, 1, 1))

    def test_turn(self):
        book = Daybook(LOW, ZERO)
        self.assertIsNone(book.enter(("turn", 2)))
        self.assertEqual(state(book), (LOW, UP, (), (("turn", 2),), 1, (("turn", 2),)))
        book.enter(deed=["turn", 0])
        self.assertEqual((book.setting, book.deeds), ((1, 0, 1), (("turn", 2), ("turn", 0))))
        self.fails(book, ("turn", 2), WouldStop, 2)
        book.enter(("jam", [2]))
        self.fails(book, ("turn", 2), Jammed, 2)

    def test_walk(self):
        book = Daybook(LOW, ZERO)
        book.enter(["walk", [2, 0, 1]])
        self.assertEqual((book.setting, book.deeds), (ONE, (("walk", (2, 0, 1)),)))
        book.enter(("walk", ()))
        self.assertEqual((book.setting, len(book)), (ONE, 2))
        self.fails(book, ("walk", [1, 2, 0]), BadWalk, 1)
        self.fails(book, ("walk", [0]), BadWalk, 0)

    def test_jammed_turns_come_ahead_of_bad_walks(self):
        book = Daybook(LOW, ZERO)
        book.enter(("jam", (1, 0)))
        self.fails(book, ("walk", [2, 2, 1, 0]), Jammed, 1)
        self.fails(book, ("walk", [0, 2, 1]), Jammed, 0)
        full = Daybook(FULL, ZERO)
        full.enter(("jam", [2]))
        self.fails(full, ("walk", [0, 1, 2]), Jammed, 2)
        self.fails(full, ("walk", [0, 1]), BadWalk, 0)
        self.fails(full, ("turn", 2), Jammed, 2)

    def test_go(self):
        book = Daybook(LOW, ZERO)
        book.enter(["go", [1, 1, 1]])
        self.assertEqual((book.setting, book.deeds), (ONE, (("go", ONE),)))
        self.assertTrue(only_tuples(book.deeds))
        book.enter(("go", ONE))
        self.assertEqual(len(book), 2)
        self.fails(book, ("go", [0, 1, 1]), NotRunning, (0, 1, 1))

    def test_no_way(self):
        self.fails(Daybook(FULL, ZERO), ("go", ONE), NoWay, (0, 1, 2))
        book = Daybook(LOW, ZERO)
        book.enter(("jam", [1]))
        book.enter(("go", (1, 0, 1)))
        self.fails(book, ("go", ONE), NoWay, (1,))
        self.fails(book, ("go", (0, 1, 1)), NotRunning, (0, 1, 1))
        book.enter(("jam", [0]))
        self.fails(book, ("go", ONE), NoWay, (1,))
        self.fails(book, ("go", ZERO), NoWay, (0, 2))
        book.enter(("clear", [0, 1]))
        book.enter(("go", ONE))

    def test_blocked_sluices_need_not_be_jammed(self):
        # The spare of mill 0 cannot come to mill 1 any more if sluice 0 is jammed.
        season = Season(Valley(3, [(0, 1), (1, 2), (1, 2)]), needs=[0, 1, 1])
        book = Daybook(season, (0, 0, 1))
        book.enter(("go", (0, 1, 0)))
        book.undo()
        book.enter(("jam", [0]))
        self.assertEqual(stuck(season.pinned((0, 0, 1), (0,)), (0, 0, 1)), (0, 1, 2))
        self.fails(book, ("go", (0, 1, 0)), NoWay, (1, 2))

    def test_jam_and_clear(self):
        book = Daybook(LOW, ZERO)
        book.enter(("jam", [2, 0, 2]))
        self.assertEqual((book.jam, book.deeds), ((0, 2), (("jam", (2, 0, 2)),)))
        book.enter(("jam", (1, 2)))
        self.assertEqual(book.jam, (0, 1, 2))
        book.enter(("clear", [1, 0, 1]))
        self.assertEqual((book.jam, book.deeds[-1]), ((2,), ("clear", (1, 0, 1))))
        self.assertEqual(book.setting, ZERO)

    def test_jams_of_set_sluices(self):
        season = Season(Valley(2, [(0, 1), (0, 1)]), sides=[(0, 1), (0,)])
        book = Daybook(season, (0, 0))
        book.enter(("jam", [1, 0]))
        self.assertEqual(book.jam, (0, 1))
        self.fails(book, ("turn", 1), Jammed, 1)
        book.enter(("clear", [1]))
        self.fails(book, ("turn", 1), WouldStop, 1)

    def test_season(self):
        book = Daybook(LOW, ZERO)
        book.enter(("jam", [0]))
        book.enter(("season", FULL))
        self.assertEqual((book.season, book.setting, book.jam), (FULL, ZERO, (0,)))
        self.assertEqual(book.deeds[-1], ("season", FULL))
        self.fails(book, ("season", Season(RING, needs=[2, 0, 0])), NotRunning, ZERO)
        self.fails(book, ("season", Season(Valley.ring(4))), ValleysDiffer)
        self.fails(book, ("season", Season(Valley(3, [(1, 0), (1, 2), (2, 0)]), needs=[2, 0, 0])), ValleysDiffer)
        book.enter(("season", FREE))
        book.enter(("turn", 1))
        self.assertEqual(book.setting, (0, 1, 0))

    def test_deeds_that_change_nothing_are_entered(self):
        book = Daybook(LOW, ZERO)
        deeds = [("walk", ()), ("go", ZERO), ("jam", ()), ("clear", (0, 1)), ("season", LOW), ("walk", (2, 2))]
        for deed in deeds:
            self.assertIsNone(book.enter(deed))
        self.assertEqual(state(book), (LOW, ZERO, (), tuple(deeds), 6, tuple(deeds)))

    def test_undo(self):
        book = Daybook(LOW, ZERO)
        states = [state(book)]
        for deed in (("turn", 2), ("jam", (0,)), ("season", FREE), ("walk", (1, 1)), ("clear", (0, 1)), ("go", ONE)):
            book.enter(deed)
            states.append(state(book))
        for before in states[-2::-1]:
            self.assertIsNone(book.undo())
            self.assertEqual(state(book), before)
        for _ in range(2):
            with self.assertRaises(NothingToUndo) as caught:
                book.undo()
            self.assertIsInstance(caught.exception, SluiceError)
            self.assertEqual(state(book), states[0])
        book.enter(("turn", 2))
        self.assertEqual(book.deeds, (("turn", 2),))

    def test_copies_its_arguments(self):
        setting, turns = [0, 0, 0], [2, 0]
        book = Daybook(LOW, setting)
        deed = ["walk", turns]
        book.enter(deed)
        setting.reverse(), turns.clear(), deed.clear()
        self.assertEqual((book.setting, book.deeds), ((1, 0, 1), (("walk", (2, 0)),)))
        goal = [1, 1, 1]
        book.enter(["go", goal])
        goal.clear()
        self.assertEqual((book.setting, book.deeds[1]), (ONE, ("go", ONE)))
        self.assertEqual(LOW, Season(RING, needs=[1, 1, 0]))

    def test_against_plain_search(self):
        rng = random.Random(1)
        kinds = set()
        for _ in range(150):
            valley = random_valley(rng)
            season = random_season(rng, valley=valley, tight=0.2)
            if not all_running(season):
                continue
            book = Daybook(season, rng.choice(all_running(season)))
            sluices = list(range(len(valley)))
            for _ in range(8):
                present, jam, at = book.season, set(book.jam), book.setting
                deed = self.random_deed(rng, valley, sluices)
                before = state(book)
                expected, after = self.plain_deed(present, jam, at, deed)
                result = perform(book, [deed])[0]
                kinds.add((deed[0], result))
                self.assertEqual(result, expected)
                if result == "done":
                    self.assertEqual((book.season, book.setting, book.jam), after)
                    self.assertEqual(book.deeds, (*before[3], deed))
                else:
                    self.assertEqual(state(book), before)
        self.assertTrue({("turn", "done"), ("turn", "Jammed"), ("turn", "WouldStop"), ("walk", "done"),
                         ("walk", "Jammed"), ("walk", "BadWalk"), ("go", "done"), ("go", "NotRunning"),
                         ("go", "NoWay"), ("jam", "done"), ("clear", "done"), ("season", "done"),
                         ("season", "NotRunning")} <= kinds, kinds)

    def random_deed(self, rng, valley, sluices):
        word = rng.choice(("turn", "walk", "go", "go", "jam", "clear", "season") if sluices else ("go", "season"))
        if word == "season":
            return word, random_season(rng, valley=valley, tight=0.2)
        if word == "go":
            return word, rng.choice(all_settings(valley))
        if word == "turn":
            return word, rng.choice(sluices)
        return word, tuple(rng.choice(sluices) for _ in range(rng.randint(0, 2)))

    def plain_deed(self, season, jam, setting, deed):
        word, what = deed
        turns = (what,) if word == "turn" else what
        if word in ("turn", "walk"):
            if jam & set(turns):
                return "Jammed", None
            good = walkable(season, setting, turns)
            return ("done" if good else "WouldStop" if word == "turn" else "BadWalk",
                    (season, flips(setting, turns), tuple(sorted(jam))))
        if word == "go":
            if not runs(season, what):
                return "NotRunning", None
            return "done" if what in jammed_ball(season, setting, jam) else "NoWay", (season, what, tuple(sorted(jam)))
        if word == "season":
            return "done" if runs(what, setting) else "NotRunning", (what, setting, tuple(sorted(jam)))
        later = jam | set(what) if word == "jam" else jam - set(what)
        return "done", (season, setting, tuple(sorted(later)))

    def test_large_seasons(self):
        ways = set()
        for seed in range(6):
            season, setting = large_season(seed, slack=2)
            rng = random.Random(seed)
            book = Daybook(season, setting)
            book.enter(("jam", rng.sample(range(48), 10)))
            for _ in range(30):
                ways.add(perform(book, [("turn", rng.randrange(48))])[0])
            there, far = book.setting, book.deeds
            book.enter(("go", setting))
            self.assertEqual(book.setting, setting)
            book.undo()
            self.assertEqual((book.setting, book.deeds), (there, far))
        self.assertTrue({"done", "Jammed", "WouldStop"} <= ways)


class TrialTest(unittest.TestCase):
    def test_ordinary(self):
        book = Daybook(LOW, ZERO)
        book.enter(("turn", 2))
        before = state(book)
        trial = Trial(book)
        self.assertEqual(state(book), before)
        with trial:
            book.enter(("turn", 0))
            book.enter(("jam", [1]))
            book.enter(("season", FREE))
            self.assertEqual((book.setting, book.jam, len(book)), ((1, 0, 1), (1,), 4))
        self.assertEqual(state(book), before)
        book.undo()
        self.assertEqual((book.setting, book.deeds), (ZERO, ()))

    def test_the_beginning_of_the_block_counts(self):
        book = Daybook(LOW, ZERO)
        trial = Trial(book=book)
        book.enter(("turn", 2))
        with trial:
            book.enter(("turn", 2))
        self.assertEqual((book.setting, len(book)), (UP, 1))

    def test_deeds_done_ahead_of_the_trial_are_undone_in_it(self):
        book = Daybook(LOW, ZERO)
        book.enter(("turn", 2))
        book.enter(("turn", 0))
        before = state(book)
        with Trial(book):
            book.undo()
            book.undo()
            book.enter(("jam", [0]))
            with self.assertRaises(Jammed):
                book.enter(("turn", 0))
            self.assertEqual(book.deeds, (("jam", (0,)),))
        self.assertEqual(state(book), before)
        book.undo()
        self.assertEqual((book.setting, book.deeds), (UP, (("turn", 2),)))
        book.undo()
        self.assertEqual(book.setting, ZERO)
        with self.assertRaises(NothingToUndo):
            book.undo()

    def test_trials_in_trials(self):
        book = Daybook(LOW, ZERO)
        with Trial(book):
            book.enter(("turn", 2))
            inner = state(book)
            with Trial(book):
                book.enter(("turn", 0))
                book.undo()
                book.undo()
            self.assertEqual(state(book), inner)
        self.assertEqual(state(book), state(Daybook(LOW, ZERO)))

    def test_errors_go_on(self):
        for error in (WouldStop(1), KeyError("x"), Jammed(2)):
            book = Daybook(LOW, ZERO)
            with self.assertRaises(error.__class__) as caught:
                with Trial(book):
                    book.enter(("turn", 2))
                    raise error
            self.assertIs(caught.exception, error)
            self.assertEqual(state(book), state(Daybook(LOW, ZERO)))
        book = Daybook(LOW, ZERO)
        with self.assertRaises(WouldStop):
            with Trial(book):
                book.enter(("turn", 2))
                book.enter(("turn", 1))
        self.assertEqual(state(book), state(Daybook(LOW, ZERO)))

    def test_blocks_that_are_left_early(self):
        book = Daybook(LOW, ZERO)

        def leave():
            with Trial(book):
                book.enter(("turn", 2))
                return book.setting

        self.assertEqual(leave(), UP)
        self.assertEqual(state(book), state(Daybook(LOW, ZERO)))
        for _ in range(2):
            with Trial(book):
                book.enter(("turn", 2))
                break
        self.assertEqual(state(book), state(Daybook(LOW, ZERO)))


class PerformTest(unittest.TestCase):
    def test_ordinary(self):
        book = Daybook(WIDE, (0, 0, 0, 0))
        program = [("turn", 3), ("jam", [3]), ("trial", [("turn", 0), ("turn", 3)]), ("undo",)]
        self.assertEqual(perform(book, program), ("done", "done", ("WouldStop", "Jammed"), "done"))
        self.assertEqual((book.setting, book.deeds), ((0, 0, 0, 1), (("turn", 3),)))

    def test_programs_without_steps(self):
        book = Daybook(LOW, ZERO)
        self.assertEqual(perform(book, ()), ())
        self.assertEqual(perform(book=book, program=[["trial", []], ("trial", ())]), ((), ()))
        self.assertEqual(state(book), state(Daybook(LOW, ZERO)))

    def test_every_error_by_its_name(self):
        book = Daybook(FULL, ZERO)
        program = [["undo"], ["turn", 0], ["jam", [1]], ["turn", 1], ["walk", [1]], ["walk", [0]],
                   ["go", [0, 1, 1]], ["go", [1, 1, 1]], ["season", Season(Valley(1))],
                   ["season", Season(RING, needs=[3, 0, 0])], ["season", LOW], ["turn", 2]]
        result = perform(book, program)
        self.assertEqual(result, ("NothingToUndo", "WouldStop", "done", "Jammed", "Jammed", "BadWalk", "NotRunning",
                                  "NoWay", "ValleysDiffer", "NotRunning", "done", "done"))
        self.assertTrue(only_tuples(result))
        for name in result:
            self.assertTrue(name == "done" or getattr(errors, name).__name__ == name)
        self.assertEqual(book.deeds, (("jam", (1,)), ("season", LOW), ("turn", 2)))

    def test_nested_trials(self):
        book = Daybook(LOW, ZERO)
        fifth = [("turn", 0), ("undo",), ("undo",), ("undo",), ("undo",), ("undo",)]
        fourth = [("trial", fifth), ("turn", 0)]
        third = [("jam", [2]), ("trial", fourth), ("turn", 2)]
        second = [("turn", 0), ("trial", third), ("turn", 1)]
        first = [("turn", 2), ("trial", second), ("turn", 1)]
        found = perform(book, first)
        expected = (("done", "done", "done", "done", "done", "NothingToUndo"), "done")
        expected = ("done", expected, "Jammed")
        expected = ("done", expected, "done")
        self.assertEqual(found, ("done", expected, "WouldStop"))
        self.assertEqual((book.setting, book.jam, book.deeds), (UP, (), (("turn", 2),)))

    def test_undo_in_a_trial(self):
        book = Daybook(LOW, ZERO)
        trial = ("trial", [("undo",), ("turn", 2), ("turn", 0), ("turn", 2)])
        result = perform(book, [("turn", 2), trial, ("turn", 0)])
        self.assertEqual(result, ("done", ("done", "done", "done", "WouldStop"), "done"))
        self.assertEqual((book.setting, book.deeds), ((1, 0, 1), (("turn", 2), ("turn", 0))))

    def test_the_program_is_left_as_it_was(self):
        program = [["walk", [2, 0]], ["trial", [["go", [1, 1, 1]]]]]
        book = Daybook(LOW, ZERO)
        perform(book, program)
        self.assertEqual(program, [["walk", [2, 0]], ["trial", [["go", [1, 1, 1]]]]])
        program[0][1].clear()
        self.assertEqual(book.deeds, (("walk", (2, 0)),))


if __name__ == "__main__":
    unittest.main()
