"""Harm: turns that a habit lets although they are no walk."""

from millsluices.fields import running_settings
from millsluices.habits import habit_states
from millsluices.settings import turned
from millsluices.walks import as_running


def traced_turns(came, place):
    """Return the turns by which the search came to the place."""
    turns = []
    before = came[place]
    while before is not None:
        origin, sluice = before
        turns.append(sluice)
        before = came[origin]
    return tuple(turns[::-1])


def harm(season, setting, habit):
    """Return the shortest and first turns that the habit lets and that are not a walk, or None."""
    start = tuple(setting)
    if start not in season:
        return ()
    allowed = running_settings(season)
    # The places are found in the order of the shortest and first turns that lead to them.
    came = {(start, 0): None}
    queue = [(start, 0)]
    at = 0
    while at < len(queue):
        place = queue[at]
        for sluice, state in habit.leaving(place[1]):
            after = (turned(place[0], (sluice,)), state)
            if after[0] not in allowed:
                return (*traced_turns(came, place), sluice)
            if after not in came:
                came[after] = (place, sluice)
                queue.append(after)
        at += 1
    return None


def is_closed(season, moves, table):
    """Tell whether all settings of the table run, and the moves lead from its pairs to its pairs alone."""
    pairs = {(tuple(row[0]), row[1]): True for row in table}
    afters = [(turned(setting, (sluice,)), after) for setting, state in pairs
              for origin, sluice, after in moves if origin == state]
    return all([pair[0] in season for pair in pairs]) and all([pair in pairs for pair in afters])


def is_harmless_table(season, setting, habit, table):
    """Tell whether the table is a harmless table for the setting."""
    has_start = any([tuple(row[0]) == tuple(setting) and row[1] == 0 for row in table])
    return has_start and is_closed(season, habit.moves, table)


def reach_within(habit, start, pairs):
    """Return the pairs to which moves lead from the start without leaving the pairs; none if it is not among them."""
    found = {start: True} if start in pairs else {}
    stack = list(found)
    while stack:
        present, state = stack.pop()
        for sluice, later in habit.leaving(state):
            after = (turned(present, (sluice,)), later)
            if after in pairs and after not in found:
                found[after] = True
                stack.append(after)
    return tuple(sorted(list(found)))


def reached_pairs(season, setting, habit):
    """Return the pairs of settings and states to which the walks lead that the habit lets."""
    start = as_running(season, setting)
    states = habit_states(habit)
    pairs = {(member, state): True for member in running_settings(season) for state in states}
    return reach_within(habit, (start, 0), pairs)
