"""What all running settings of a season share, and how two seasons differ."""

from millsluices.helpers import arcs, backward, path, with_room, with_spare
from millsluices.running import first_running, solved, with_other_side
from millsluices.seasons import Season, check_valleys
from millsluices.settings import fed, turned
from millsluices.tightness import some_running


def sure_sides(season):
    """Return for each sluice the side that it has in every running setting, or None."""
    setting = some_running(season)
    sides = list(setting)
    for sluice in season.unset:
        if with_other_side(season, setting, sluice, season.unset) is not None:
            sides[sluice] = None
    return tuple(sides)


def least_fed(season, start, mill):
    """Return the least number of sluices that feed the mill in a running setting."""
    setting = start
    counts = fed(season.valley, setting)
    while counts[mill] > season.needs[mill]:
        takers = [taker for taker in with_room(season, counts) if taker != mill]
        way = path(backward(arcs(season.valley, setting, season.unset)), (mill,), takers)
        if way is None:
            return counts[mill]
        setting = turned(setting, way)
        counts = fed(season.valley, setting)
    return counts[mill]


def most_fed(season, start, mill):
    """Return the greatest number of sluices that feed the mill in a running setting."""
    setting = start
    counts = fed(season.valley, setting)
    while mill in with_room(season, counts):
        givers = [giver for giver in with_spare(season, counts) if giver != mill]
        way = path(arcs(season.valley, setting, season.unset), (mill,), givers)
        if way is None:
            return counts[mill]
        setting = turned(setting, way)
        counts = fed(season.valley, setting)
    return counts[mill]


def fed_range(season, mill):
    """Return the least and the greatest number of sluices that feed the mill in a running setting."""
    setting = some_running(season)
    return least_fed(season, setting, mill), most_fed(season, setting, mill)


def tightened(season):
    """Return the season with the same running settings and the narrowest needs, limits and sides."""
    setting = some_running(season)
    mills = range(season.valley.mills)
    needs = [least_fed(season, setting, mill) for mill in mills]
    limits = [most_fed(season, setting, mill) for mill in mills]
    sides = [(0, 1) if side is None else (side,) for side in sure_sides(season)]
    return Season(season.valley, needs=needs, limits=limits, sides=sides)


def alone(size, mill, number, rest):
    """Return a tuple of this size with the number at the mill and the rest elsewhere."""
    return tuple([number if place == mill else rest for place in range(size)])


def breaches(season):
    """Return seasons in one of which at least each setting runs that does not run in this season."""
    valley = season.valley
    found = []
    for sluice, let in enumerate(season.sides):
        for side in (0, 1):
            if side not in let:
                sides = [(side,) if number == sluice else (0, 1) for number in range(len(valley))]
                found.append(Season(valley, sides=sides))
    for mill in range(valley.mills):
        need = season.needs[mill]
        limit = season.limits[mill]
        if need > 0:
            found.append(Season(valley, limits=alone(valley.mills, mill, need - 1, None)))
        if limit is not None:
            found.append(Season(valley, needs=alone(valley.mills, mill, limit + 1, 0)))
    return found


def parting(one, two):
    """Return the first setting that runs in the first season but not in the second one, or None."""
    check_valleys(one, two)
    first = first_running(one)
    if first is None or first not in two:
        return first
    found = [first_running(one & breach) for breach in breaches(two)]
    return min([setting for setting in found if setting is not None], default=None)


def is_within(one, two):
    """Tell whether each setting that runs in the first season runs in the second one, too."""
    return all([solved(one & breach)[0] is None for breach in breaches(two)])


def same_running(one, two):
    """Tell whether the same settings run in both seasons."""
    check_valleys(one, two)
    return is_within(one, two) and is_within(two, one)
