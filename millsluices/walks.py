"""Walks: turns one by one, after each of which no mill is out."""

from millsluices.errors import BadWalk, NotRunning
from millsluices.helpers import with_room, with_spare
from millsluices.settings import fed, turned


def as_running(season, setting):
    """Return the setting as a tuple; raise an error if it does not run."""
    if setting not in season:
        raise NotRunning(setting)
    return tuple(setting)


def first_bad_turn(season, setting, turns):
    """Return the index of the first turn after which the setting does not run, or None."""
    present = setting
    for index, sluice in enumerate(turns):
        present = turned(present, (sluice,))
        if present not in season:
            return index
    return None


def is_walk(season, setting, turns):
    """Tell whether the turns are a walk from the setting."""
    return setting in season and first_bad_turn(season, setting, turns) is None


def follow(season, setting, turns):
    """Return all settings of the walk, the first and the last one included."""
    passed = [as_running(season, setting)]
    bad = first_bad_turn(season, setting, turns)
    if bad is not None:
        raise BadWalk(bad)
    for sluice in turns:
        passed.append(turned(passed[-1], (sluice,)))
    return tuple(passed)


def turnable(season, setting):
    """Return the sluices whose single turn is a walk."""
    present = as_running(season, setting)
    counts = fed(season.valley, present)
    spare = with_spare(season, counts)
    room = with_room(season, counts)
    found = []
    for sluice in season.unset:
        pair = season.valley.sluices[sluice]
        side = present[sluice]
        if pair[side] in spare and pair[1 - side] in room:
            found.append(sluice)
    return tuple(found)
