"""Plans: what to try if it is not known which sluices are jammed."""

from millsluices.errors import EndlessPlan
from millsluices.fields import Field, running_settings
from millsluices.fits import checked_start
from millsluices.helpers import distinct, subsets
from millsluices.settings import turned


class Plan:
    """The sluice that is tried in a setting, if the jams that are known are known."""

    def __init__(self, rows):
        self.rows = tuple([(tuple(row[0]), tuple(row[1]), row[2]) for row in rows])
        self.choices = {}
        for setting, known, sluice in self.rows:
            self.choices.setdefault((setting, known), sluice)

    def __len__(self):
        return len(self.rows)

    def __iter__(self):
        return iter(self.rows)

    def __eq__(self, other):
        return isinstance(other, Plan) and self.rows == other.rows

    def __call__(self, setting, known):
        return self.choices.get((tuple(setting), tuple(known)))


def tries_made(plan, setting, jam):
    """Return the pairs of the sluices that are tried and whether they moved; None if the plan never ends."""
    present = tuple(setting)
    known = ()
    tries = []
    passed = {}
    sluice = plan(present, known)
    while sluice is not None:
        if (present, known) in passed:
            return None
        passed[(present, known)] = True
        moved = sluice not in jam
        tries.append((sluice, moved))
        if moved:
            present = turned(present, (sluice,))
        else:
            known = distinct([*known, sluice])
        sluice = plan(present, known)
    return tuple(tries)


def follow_plan(plan, setting, jam):
    """Return the pairs of the sluices that are tried and whether they moved, while the sluices are jammed."""
    tries = tries_made(plan, setting, jam)
    if tries is None:
        raise EndlessPlan()
    return tries


def setting_after(allowed, movable, setting, tries):
    """Return the setting after the tries, or None if they try another sluice or lead to a setting not allowed."""
    present = setting
    for sluice, moved in tries:
        if sluice not in movable:
            return None
        if moved:
            present = turned(present, (sluice,))
        if present not in allowed:
            return None
    return present


def is_plan(season, wish, setting, plan, *, most):
    """Tell whether the plan leads to a setting that runs in the wish, whichever sluices are jammed."""
    start = checked_start(season, (wish,), setting)
    allowed = running_settings(season)
    for jam in subsets(season.unset):
        if len(jam) > most:
            return True
        tries = tries_made(plan, start, jam)
        end = None if tries is None else setting_after(allowed, season.unset, start, tries)
        if end is None or end not in wish:
            return False
    return True


def find_plan(season, wish, setting, *, most):
    """Return a plan that leads to a setting that runs in the wish, whichever sluices are jammed; or None."""
    start = checked_start(season, (wish,), setting)
    field = Field(season.valley)
    ground = field.runners(season)
    goal = field.runners(wish)
    rows = {}
    # A place has a setting, the jams that are known there, and the sluices that have moved on the way to it.
    stack = [(start, (), ())]
    while stack:
        present, known, moved = stack.pop()
        free = [number for number in season.unset if number not in known]
        rings = field.rings(goal, ground, free)
        if not field.has(rings[-1], present):
            return None
        for sluice in field.way(rings, free, present):
            rows[(present, known)] = sluice
            # A sluice that has moved is not jammed; so the way back to the beginning stays open.
            if sluice not in moved and len(known) < most:
                stack.append((present, distinct([*known, sluice]), moved))
            present = turned(present, (sluice,))
            moved = (*moved, sluice)
    return Plan([(*place, tried) for place, tried in rows.items()])
