"""Fits: whether a wish can be met from a setting."""

from millsluices.classes import class_season
from millsluices.connections import connect
from millsluices.running import first_running, obstacle
from millsluices.seasons import check_valleys
from millsluices.walks import as_running


class Fit:
    """Whether a wish is met, the setting reached and a walk to it, or else an obstacle."""

    def __init__(self, met, reached, turns, hindrance):
        self.met = met
        self.reached = reached
        self.turns = turns
        self.obstacle = hindrance


def checked_start(season, wishes, setting):
    """Return the setting as a tuple; raise an error if a wish has another valley or the setting does not run."""
    check_valleys(season, *wishes)
    return as_running(season, setting)


def meeting_season(season, wish, setting):
    """Return the season in which those settings of the class run that run in the wish."""
    start = checked_start(season, (wish,), setting)
    return class_season(season, start) & wish


def fit(season, wish, setting):
    """Return whether the wish can be met from the setting."""
    meeting = meeting_season(season, wish, setting)
    reached = first_running(meeting)
    if reached is None:
        return Fit(False, None, (), obstacle(meeting))
    return Fit(True, reached, connect(season, setting, reached).turns, None)
