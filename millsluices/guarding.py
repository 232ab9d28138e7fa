"""Guards: which turns of the miller must be forbidden, so that no turn of a foe does harm."""

from millsluices.fields import Field
from millsluices.helpers import distinct
from millsluices.settings import turned


def guarded_crowds(season, habit, foes):
    """Return a dict with the crowd of the settings that are guarded in each state, ascending."""
    field = Field(season.valley)
    ground = field.runners(season)
    states = distinct([0, *[move[0] for move in habit.moves], *[move[2] for move in habit.moves]])
    crowds = {place: ground for place in states}
    threats = [move for move in habit.moves if move[1] in foes]
    old = {}
    while crowds != old:
        old = {place: crowds[place] for place in crowds}
        for state, sluice, after in threats:
            crowds[state] = crowds[state] & field.swapped(crowds[after], sluice)
    return crowds


def guarded_dict(season, habit, foes):
    """Return a dict that has the guarded pairs as its keys; of states without moves only those that moves lead to."""
    field = Field(season.valley)
    crowds = guarded_crowds(season, habit, foes)
    return {(setting, state): True for state, crowd in crowds.items() for setting in field.listed(crowd)}


def guarded(season, habit, foes):
    """Return the guarded pairs with the states of the habit."""
    return tuple(sorted(list(guarded_dict(season, habit, foes))))


def guarded_pair(season, habit, foes, pairs, pair):
    """Tell whether the setting of the pair runs and all moves of foes from the pair lead to pairs."""
    setting, state = pair
    return setting in season and all([(turned(setting, (sluice,)), after) in pairs
                                      for sluice, after in habit.leaving(state) if sluice in foes])


def is_guard_table(season, habit, foes, table):
    """Tell whether the table is a guard table."""
    pairs = {(tuple(row[0]), row[1]): True for row in table}
    return all([guarded_pair(season, habit, foes, pairs, pair) for pair in pairs])


def guard_lets(season, habit, foes, setting, state):
    """Return the sluices that are no foe's and whose move leads from the pair to a guarded one."""
    pairs = guarded_dict(season, habit, foes)
    if (tuple(setting), state) not in pairs:
        return ()
    return tuple([sluice for sluice, after in habit.leaving(state)
                  if sluice not in foes and (turned(setting, (sluice,)), after) in pairs])


def guarded_reach(season, habit, foes, setting):
    """Return the pairs that can be reached while the guard forbids what does not lead to a guarded pair."""
    pairs = guarded_dict(season, habit, foes)
    start = (tuple(setting), 0)
    found = {start: True} if start in pairs else {}
    stack = list(found)
    while stack:
        present, state = stack.pop()
        for sluice, later in habit.leaving(state):
            after = (turned(present, (sluice,)), later)
            if after in pairs and after not in found:
                found[after] = True
                stack.append(after)
    return tuple(sorted(list(found)))
