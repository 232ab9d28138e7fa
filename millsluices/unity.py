"""Unity: whether walks lead from every running setting to every other one."""

from millsluices.running import with_other_side
from millsluices.stuckness import stuck
from millsluices.tightness import some_running


class Unity:
    """Whether there is a single class, or else two running settings that no walk joins."""

    def __init__(self, single, one, two):
        self.single = single
        self.one = one
        self.two = two


def unity(season):
    """Return whether a walk leads from every running setting to every other one."""
    setting = some_running(season)
    hindering = stuck(season, setting)
    for sluice in season.unset:
        if sluice in hindering:
            apart = with_other_side(season, setting, sluice, season.unset)
            if apart is not None:
                return Unity(False, setting, apart)
    return Unity(True, None, None)
