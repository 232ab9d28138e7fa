"""Watches: what was seen and heard of some days; histories: what may have happened."""

from millsluices.seasons import check_valleys
from millsluices.settings import turned
from millsluices.walks import is_walk


class Watch:
    """A season that was kept all the time, and for each day a season that tells what was seen and heard."""

    def __init__(self, rule, reports, *, turns=None):
        kept = tuple(reports)
        check_valleys(rule, *kept)
        self.rule = rule
        self.reports = kept
        self.turns = turns

    def __len__(self):
        return len(self.reports)

    def __iter__(self):
        return iter(self.reports)

    def __eq__(self, other):
        return (isinstance(other, Watch) and self.rule == other.rule and self.reports == other.reports
                and self.turns == other.turns)

    def __add__(self, other):
        return Watch(self.rule, [*self.reports, other], turns=self.turns)


def day_settings(history):
    """Return the settings on all days of the history."""
    first, nights = history
    found = [tuple(first)]
    for turns in nights:
        found.append(turned(found[-1], turns))
    return tuple(found)


def is_night(watch, setting, turns):
    """Tell whether the turns are a walk that one night of the watch lets."""
    return (watch.turns is None or len(turns) <= watch.turns) and is_walk(watch.rule, setting, turns)


def is_history(watch, history):
    """Tell whether the pair of a setting and the turns of the nights is a history of the watch."""
    days = day_settings(history)
    if len(days) != len(watch):
        return False
    seen = [setting in watch.rule and setting in report for setting, report in zip(days, watch.reports)]
    return all(seen) and all([is_night(watch, setting, turns) for setting, turns in zip(days, history[1])])
