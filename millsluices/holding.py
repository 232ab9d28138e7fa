"""Holding settings: those from which the miller can go on for ever against a foe."""

from millsluices.fields import Field
from millsluices.helpers import distinct
from millsluices.nights import night_crowd
from millsluices.walks import as_running


class Siege:
    """Days of the miller and nights of the foe in a small season."""

    def __init__(self, season, foes, most, turns, shared):
        self.field = Field(season.valley)
        self.ground = self.field.runners(season)
        self.foes = distinct(foes)
        self.own = [sluice for sluice in season.unset if shared or sluice not in self.foes]
        self.most = most
        self.bound = turns

    def daily(self, crowd):
        """Return the crowd of what days make of the crowd; days can be made backwards, too."""
        return self.field.ball(crowd, self.ground, self.own, self.bound)

    def nightly(self, crowd):
        """Return the crowd of what nights make of the crowd."""
        return night_crowd(self.field, crowd, self.foes, self.most)

    def calm(self, crowd):
        """Return the crowd of the evenings after which each night leads to a running setting of the crowd."""
        good = crowd & self.ground
        # A night can be made backwards: what it makes of the other settings is just what is not calm.
        return good & ~self.nightly(self.field.whole & ~good)

    def stages(self):
        """Return a list of crowds: the running settings, and what the miller can keep of each, until all is kept."""
        crowds = [self.ground]
        after = self.daily(self.calm(self.ground))
        while after != crowds[-1]:
            crowds.append(after)
            after = self.daily(self.calm(after))
        return crowds

    def held(self):
        """Return the crowd of the settings that hold."""
        crowds = self.stages()
        return crowds[-1]


def holding(season, foes, *, most=1, turns=None, shared=False):
    """Return all settings that hold, in order."""
    siege = Siege(season, foes, most, turns, shared)
    return siege.field.listed(siege.held())


def holds(season, setting, foes, *, most=1, turns=None, shared=False):
    """Tell whether the setting holds."""
    start = as_running(season, setting)
    siege = Siege(season, foes, most, turns, shared)
    return siege.field.has(siege.held(), start)


def hold_table(season, setting, foes, *, most=1, turns=None, shared=False):
    """Return a hold table of the setting, or None if there is none."""
    start = as_running(season, setting)
    siege = Siege(season, foes, most, turns, shared)
    field = siege.field
    held = siege.held()
    if not field.has(held, start):
        return None
    calm = siege.calm(held)
    evenings = {}
    stack = [start]
    while stack:
        morning = stack.pop()
        if morning not in evenings:
            evening = field.first(siege.daily(field.alone(morning)) & calm)
            evenings[morning] = evening
            stack.extend(field.listed(siege.nightly(field.alone(evening))))
    return tuple(sorted(list(evenings.items())))


def is_hold_table(season, setting, foes, rows, *, most=1, turns=None, shared=False):
    """Tell whether the rows are a hold table of the setting."""
    start = as_running(season, setting)
    siege = Siege(season, foes, most, turns, shared)
    field = siege.field
    mornings = field.crowd([morning for morning, _ in rows])
    if not field.has(mornings, start):
        return False
    calm = siege.calm(mornings)
    # No day begins with a morning that does not run.
    return all([field.has(siege.daily(field.alone(morning)) & calm, evening) for morning, evening in rows])
