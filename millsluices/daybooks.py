"""Daybooks: deeds that are done, undone and tried."""

from millsluices.errors import BadWalk, Jammed, NothingToUndo, NotRunning, NoWay, ValleysDiffer, WouldStop
from millsluices.helpers import distinct
from millsluices.seasons import check_valleys
from millsluices.settings import differing, turned
from millsluices.stuckness import stuck
from millsluices.walks import as_running, follow


class Daybook:
    """The present season, setting and jam, and the deeds that led there."""

    def __init__(self, season, setting):
        self.setting = as_running(season, setting)
        self.season = season
        self.jam = ()
        self.deeds = ()
        self.past = ()

    def __len__(self):
        return len(self.deeds)

    def __iter__(self):
        return iter(self.deeds)

    def enter(self, deed):
        """Do the deed and record it."""
        kept = as_kept(deed)
        season, setting, jam = after_deed(self, kept)
        self.past = (*self.past, (self.season, self.setting, self.jam))
        self.deeds = (*self.deeds, kept)
        self.season = season
        self.setting = setting
        self.jam = jam

    def undo(self):
        """Take the last deed back."""
        if len(self.deeds) == 0:
            raise NothingToUndo()
        season, setting, jam = self.past[-1]
        self.season = season
        self.setting = setting
        self.jam = jam
        self.past = self.past[:-1]
        self.deeds = self.deeds[:-1]


def as_kept(deed):
    """Return the deed with tuples for all sequences."""
    word, what = deed
    return (word, tuple(what)) if word in ("walk", "go", "jam", "clear") else (word, what)


def after_deed(book, deed):
    """Return the season, the setting and the jam after the deed."""
    word, what = deed
    if word == "turn":
        return book.season, after_turn(book, what), book.jam
    if word == "walk":
        return book.season, after_walk(book, what), book.jam
    if word == "go":
        return book.season, after_going(book, what), book.jam
    if word == "jam":
        return book.season, book.setting, distinct([*book.jam, *what])
    if word == "clear":
        return book.season, book.setting, tuple([sluice for sluice in book.jam if sluice not in what])
    check_valleys(book.season, what)
    return what, as_running(what, book.setting), book.jam


def check_free(book, turns):
    """Raise an error for the first of the turns that is of a jammed sluice."""
    for sluice in turns:
        if sluice in book.jam:
            raise Jammed(sluice)


def after_turn(book, sluice):
    """Return the setting after the turn."""
    check_free(book, (sluice,))
    after = turned(book.setting, (sluice,))
    if after not in book.season:
        raise WouldStop(sluice)
    return after


def after_walk(book, turns):
    """Return the setting after all the turns."""
    check_free(book, turns)
    return follow(book.season, book.setting, turns)[-1]


def after_going(book, setting):
    """Return the setting; raise an error if no walk leads there that turns no jammed sluice."""
    goal = as_running(book.season, setting)
    hindering = stuck(book.season.pinned(book.setting, book.jam), book.setting)
    blocked = tuple([sluice for sluice in differing(book.setting, goal) if sluice in hindering])
    if len(blocked) > 0:
        raise NoWay(blocked)
    return goal


class Trial:
    """A block after which the daybook is as at its beginning."""

    def __init__(self, book):
        self.book = book

    def __enter__(self):
        book = self.book
        self.season = book.season
        self.setting = book.setting
        self.jam = book.jam
        self.deeds = book.deeds
        self.past = book.past
        return book

    def __exit__(self, kind, value, trace):
        book = self.book
        book.season = self.season
        book.setting = self.setting
        book.jam = self.jam
        book.deeds = self.deeds
        book.past = self.past


def done(book, step):
    """Do the step, a deed or taking one back; return what it comes to."""
    try:
        if step[0] == "undo":
            book.undo()
        else:
            book.enter(step)
    except Jammed:
        return "Jammed"
    except WouldStop:
        return "WouldStop"
    except BadWalk:
        return "BadWalk"
    except NotRunning:
        return "NotRunning"
    except NoWay:
        return "NoWay"
    except ValleysDiffer:
        return "ValleysDiffer"
    except NothingToUndo:
        return "NothingToUndo"
    return "done"


def perform(book, program):
    """Do the steps of the program; return for each of them what it came to."""
    results = []
    for step in program:
        if step[0] == "trial":
            with Trial(book):
                results.append(perform(book, step[1]))
        else:
            results.append(done(book, step))
    return tuple(results)
