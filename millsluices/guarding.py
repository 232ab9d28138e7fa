"""Guards: which turns of the miller must be forbidden, so that no turn of a foe does harm."""

from millsluices.fields import Field
from millsluices.habits import habit_states
from millsluices.harms import is_closed, reach_within
from millsluices.settings import turned


def threats(habit, foes):
    """Return the moves of the habit by which foes turn sluices."""
    return [move for move in habit.moves if move[1] in foes]


def guarded_crowds(season, habit, foes):
    """Return a dict with the crowd of the settings that are guarded in each state of the habit."""
    field = Field(season.valley)
    ground = field.runners(season)
    crowds = {place: ground for place in habit_states(habit)}
    old = {}
    while crowds != old:
        old = {place: crowds[place] for place in crowds}
        for state, sluice, after in threats(habit, foes):
            crowds[state] = crowds[state] & field.swapped(crowds[after], sluice)
    return crowds


def guarded_dict(season, habit, foes):
    """Return a dict that has the guarded pairs with the states of the habit as its keys."""
    field = Field(season.valley)
    crowds = guarded_crowds(season, habit, foes)
    return {(setting, state): True for state, crowd in crowds.items() for setting in field.listed(crowd)}


def guarded(season, habit, foes):
    """Return the guarded pairs with the states of the habit."""
    return tuple(sorted(list(guarded_dict(season, habit, foes))))


def is_guard_table(season, habit, foes, table):
    """Tell whether the table is a guard table."""
    return is_closed(season, threats(habit, foes), table)


def guard_lets(season, habit, foes, setting, state):
    """Return the sluices that are no foe's and whose move leads from the pair to a guarded one."""
    pairs = guarded_dict(season, habit, foes)
    if (tuple(setting), state) not in pairs:
        return ()
    return tuple([sluice for sluice, after in habit.leaving(state)
                  if sluice not in foes and (turned(setting, (sluice,)), after) in pairs])


def guarded_reach(season, habit, foes, setting):
    """Return the pairs that can be reached while the guard forbids what does not lead to a guarded pair."""
    return reach_within(habit, (tuple(setting), 0), guarded_dict(season, habit, foes))
