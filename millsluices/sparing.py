"""Sparing: sluices that can be closed, for ever or for a while."""

from millsluices.classes import class_season
from millsluices.running import obstacle
from millsluices.seasons import Season


def closable(season):
    """Return the sluices without which something runs."""
    return tuple([sluice for sluice in range(len(season.valley)) if obstacle(season.without((sluice,))) is None])


def spared(season, sluice, side):
    """Return the season in which the sluice has the side, but what it feeds could do without it."""
    gaining = season.valley.sluices[sluice][side]
    needs = [need + 1 if mill == gaining else need for mill, need in enumerate(season.needs)]
    sides = [(side,) if number == sluice else let for number, let in enumerate(season.sides)]
    return Season(season.valley, needs=needs, limits=season.limits, sides=sides)


def cleanable(season, setting):
    """Return the sluices that can be closed for a while, after a walk from the setting."""
    members = class_season(season, setting)
    return tuple([sluice for sluice, let in enumerate(members.sides)
                  if any([obstacle(spared(members, sluice, side)) is None for side in let])])
