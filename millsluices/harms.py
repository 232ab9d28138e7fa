"""Harm: turns that a habit lets although they are no walk."""

from millsluices.fields import running_settings
from millsluices.settings import turned
from millsluices.walks import as_running


def traced_turns(came, place):
    """Return the turns by which the search came to the place."""
    turns = []
    before = came[place]
    while before is not None:
        origin, sluice = before
        turns.append(sluice)
        before = came[origin]
    return tuple(turns[::-1])


def harm(season, setting, habit):
    """Return the shortest and first turns that the habit lets and that are not a walk, or None."""
    start = tuple(setting)
    if start not in season:
        return ()
    allowed = running_settings(season)
    # The places are found in the order of the shortest and first turns that lead to them.
    came = {(start, 0): None}
    queue = [(start, 0)]
    at = 0
    while at < len(queue):
        place = queue[at]
        for sluice, state in habit.leaving(place[1]):
            after = (turned(place[0], (sluice,)), state)
            if after[0] not in allowed:
                return (*traced_turns(came, place), sluice)
            if after not in came:
                came[after] = (place, sluice)
                queue.append(after)
        at += 1
    return None


def harmless_pair(season, habit, pairs, pair):
    """Tell whether the setting of the pair runs and all moves from the pair lead to pairs."""
    setting, state = pair
    return setting in season and all([(turned(setting, (sluice,)), after) in pairs
                                      for sluice, after in habit.leaving(state)])


def is_harmless_table(season, setting, habit, table):
    """Tell whether the table is a harmless table for the setting."""
    pairs = {(tuple(row[0]), row[1]): True for row in table}
    return (tuple(setting), 0) in pairs and all([harmless_pair(season, habit, pairs, pair) for pair in pairs])


def reached_pairs(season, setting, habit):
    """Return the pairs of settings and states to which the walks lead that the habit lets."""
    start = as_running(season, setting)
    allowed = running_settings(season)
    found = {(start, 0): True}
    stack = [(start, 0)]
    while stack:
        present, state = stack.pop()
        for sluice, later in habit.leaving(state):
            after = (turned(present, (sluice,)), later)
            if after[0] in allowed and after not in found:
                found[after] = True
                stack.append(after)
    return tuple(sorted(list(found)))
