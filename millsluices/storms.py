"""Storms: how soon a foe can stop or flood a mill."""

from millsluices.holding import Siege
from millsluices.walks import as_running


def falls_within(season, setting, foes, *, most=1, turns=None, shared=False):
    """Return the number of nights within which the foe can stop or flood a mill, or None if the setting holds."""
    start = as_running(season, setting)
    siege = Siege(season, foes, most, turns, shared)
    for number, crowd in enumerate(siege.stages()):
        if not siege.field.has(crowd, start):
            return number
    return None


def storm_table(season, foes, *, most=1, turns=None, shared=False):
    """Return the storm table of all running settings that do not hold, with their least numbers."""
    siege = Siege(season, foes, most, turns, shared)
    crowds = siege.stages()
    rows = []
    for number in range(1, len(crowds)):
        lost = siege.field.listed(crowds[number - 1] & ~crowds[number])
        rows.extend([(setting, number) for setting in lost])
    return tuple(sorted(rows))


def crowds_by_number(field, rows):
    """Return a dict with the crowd of the settings of the rows for each number, ascending."""
    found = {}
    for number, setting in sorted([(row[1], tuple(row[0])) for row in rows]):
        found[number] = found.get(number, 0) | field.alone(setting)
    return found


def is_storm_table(season, foes, rows, *, most=1, turns=None, shared=False):
    """Tell whether the rows are a storm table."""
    siege = Siege(season, foes, most, turns, shared)
    # What the rows with lesser numbers have left of the running settings.
    left = siege.ground
    for number, crowd in crowds_by_number(siege.field, rows).items():
        lost = siege.ground & ~siege.daily(siege.calm(left))
        if number < 1 or crowd & ~lost != 0:
            return False
        left = left & ~crowd
    return True
