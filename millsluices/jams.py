"""Jams: sluices that cannot be turned any more."""

from millsluices.fields import Field
from millsluices.fits import checked_start
from millsluices.helpers import has_part, subsets


class Outlook:
    """The settings of a small season from which wishes can be met, whatever is jammed."""

    def __init__(self, season, wishes):
        self.field = Field(season.valley)
        self.ground = self.field.runners(season)
        self.movable = season.unset
        self.wished = [self.field.runners(wish) for wish in wishes]

    def walked(self, crowd, jam):
        """Return the crowd of the settings to which walks lead from the crowd while the jam lasts."""
        free = [sluice for sluice in self.movable if sluice not in jam]
        return self.field.ball(crowd, self.ground, free, None)

    def surviving(self, jam):
        """Return the crowd of the settings that survive the jam."""
        found = self.ground
        for wished in self.wished:
            found = found & self.walked(wished, jam)
        return found


def survives(season, wishes, setting, jam):
    """Tell whether the setting survives the jam."""
    start = checked_start(season, wishes, setting)
    outlook = Outlook(season, wishes)
    return outlook.field.has(outlook.surviving(jam), start)


def fatal_jams(season, wishes, setting, *, most):
    """Yield the jams of at most so many sluices that the setting does not survive, without a fatal part, by size."""
    start = checked_start(season, wishes, setting)
    outlook = Outlook(season, wishes)
    found = []
    for jam in subsets(season.unset):
        if len(jam) > most:
            return
        if not has_part(jam, found) and not outlook.field.has(outlook.surviving(jam), start):
            found.append(jam)
            yield jam


def jam_strength(season, wishes, setting):
    """Return the greatest size up to which the setting survives every jam; None if it survives all; or -1."""
    start = checked_start(season, wishes, setting)
    outlook = Outlook(season, wishes)
    for jam in subsets(season.unset):
        if not outlook.field.has(outlook.surviving(jam), start):
            return len(jam) - 1
    return None


def stoutest(season, wishes, setting):
    """Return the greatest strength of a setting of the class, and the first setting that has it."""
    start = checked_start(season, wishes, setting)
    outlook = Outlook(season, wishes)
    strength = -1
    strong = outlook.walked(outlook.field.alone(start), ())
    kept = strong
    for jam in subsets(season.unset):
        if len(jam) - 1 > strength:
            # All smaller jams were gone through, and what is kept has survived them.
            strength = len(jam) - 1
            strong = kept
        kept = kept & outlook.surviving(jam)
        if kept == 0:
            return strength, outlook.field.first(strong)
    return None, outlook.field.first(kept)
