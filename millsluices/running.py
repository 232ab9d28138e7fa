"""The settings that run in a season, or the obstacle that shows that there are none."""

from millsluices.helpers import arcs, backward, path, reached, with_room, with_spare
from millsluices.lots import bears_less_than_need
from millsluices.settings import fed, turned


def filled(season, usable, start):
    """Turn usable sluices along paths until no mill has less than it needs.

    Return the setting and None; or None and a lot that wants more than it can gain.
    """
    valley = season.valley
    setting = start
    counts = fed(valley, setting)
    for mill, need in enumerate(season.needs):
        while counts[mill] < need:
            links = arcs(valley, setting, usable)
            way = path(links, (mill,), with_spare(season, counts))
            if way is None:
                return None, reached(links, (mill,))
            setting = turned(setting, way)
            counts = fed(valley, setting)
    return setting, None


def drained(season, usable, start):
    """Turn usable sluices along paths until no mill has more than it bears; all have what they need.

    Return the setting and None; or None and a lot that must bear more than it can.
    """
    valley = season.valley
    setting = start
    counts = fed(valley, setting)
    for mill, limit in enumerate(season.limits):
        while limit is not None and counts[mill] > limit:
            links = backward(arcs(valley, setting, usable))
            way = path(links, (mill,), with_room(season, counts))
            if way is None:
                return None, reached(links, (mill,))
            setting = turned(setting, way)
            counts = fed(valley, setting)
    return setting, None


def repaired(season, usable, start):
    """Return a running setting made from the start by turns of usable sluices, or None.

    No limit is less than the need, and the sides in the start are let.
    """
    setting, _ = filled(season, usable, start)
    if setting is None:
        return None
    setting, _ = drained(season, usable, setting)
    return setting


def first_sides(season):
    """Return the setting with the first side that is let for each sluice."""
    return tuple([let[0] for let in season.sides])


def solved(season):
    """Return a running setting and None, or None and an obstacle."""
    for sluice, let in enumerate(season.sides):
        if len(let) == 0:
            return None, ("sluice", sluice)
    for mill in range(season.valley.mills):
        if bears_less_than_need(season, mill):
            return None, ("mill", mill)
    setting, lot = filled(season, season.unset, first_sides(season))
    if setting is None:
        return None, ("wants", lot)
    setting, lot = drained(season, season.unset, setting)
    if setting is None:
        return None, ("bears", lot)
    return setting, None


def obstacle(season):
    """Return an obstacle of the season, or None if a setting runs."""
    _, found = solved(season)
    return found


def with_other_side(season, setting, sluice, usable):
    """Return a running setting with the other side of the unset sluice, or None.

    It is made from the running setting by turns of this sluice and of usable ones.
    """
    others = [number for number in usable if number != sluice]
    return repaired(season, others, turned(setting, (sluice,)))


def first_running(season):
    """Return the first setting that runs, or None."""
    setting, _ = solved(season)
    if setting is None:
        return None
    for sluice in season.unset:
        if setting[sluice] == 1:
            later = [number for number in season.unset if number > sluice]
            lesser = with_other_side(season, setting, sluice, later)
            setting = setting if lesser is None else lesser
    return setting


def replaced(items, index, item):
    """Return the tuple with another item at the index."""
    return (*items[:index], item, *items[index + 1:])


def keeps_bounds(season, mill, least, most):
    """Tell whether a mill that is fed by between least and most sluices may still be kept running."""
    limit = season.limits[mill]
    return most >= season.needs[mill] and (limit is None or least <= limit)


def opening(season):
    """Return the state of the search in which no unset sluice has been decided, in a list, if there is hope.

    A state has the number of decided sluices, the setting, and for each mill how many sluices feed it
    at the least and at the most.
    """
    if () in season.sides:
        return []
    mills = range(season.valley.mills)
    least = [0] * season.valley.mills
    most = [0] * season.valley.mills
    for sluice, let in enumerate(season.sides):
        for side in let:
            fed_mill = season.valley.sluices[sluice][side]
            most[fed_mill] += 1
            least[fed_mill] += 2 - len(let)
    hopeful = all([keeps_bounds(season, mill, least[mill], most[mill]) for mill in mills])
    return [(0, first_sides(season), tuple(least), tuple(most))] if hopeful else []


def decided(season, state, sluice, side):
    """Return the state after the sluice was given the side, in a list, if there is still hope."""
    number, setting, least, most = state
    pair = season.valley.sluices[sluice]
    gaining = pair[side]
    losing = pair[1 - side]
    least = replaced(least, gaining, least[gaining] + 1)
    most = replaced(most, losing, most[losing] - 1)
    hopeful = all([keeps_bounds(season, mill, least[mill], most[mill]) for mill in pair])
    return [(number + 1, replaced(setting, sluice, side), least, most)] if hopeful else []


def running(season):
    """Yield all running settings, in order."""
    unset = season.unset
    stack = opening(season)
    while stack:
        state = stack.pop()
        if state[0] == len(unset):
            yield state[1]
        else:
            sluice = unset[state[0]]
            stack.extend(decided(season, state, sluice, 1))
            stack.extend(decided(season, state, sluice, 0))


def running_count(season):
    """Return the number of the running settings."""
    return len(list(running(season)))
