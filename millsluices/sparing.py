"""Sparing: sluices that can be closed, for ever or for a while."""

from millsluices.classes import class_season
from millsluices.running import obstacle
from millsluices.seasons import Season
from millsluices.settings import feeds


def closable(season):
    """Return the sluices without which something runs."""
    return tuple([sluice for sluice in range(len(season.valley)) if obstacle(season.without((sluice,))) is None])


def needier(season, mill):
    """Return the season in which the mill needs one sluice more."""
    needs = [need + 1 if number == mill else need for number, need in enumerate(season.needs)]
    return Season(season.valley, needs=needs, limits=season.limits, sides=season.sides)


def cleanable(season, setting):
    """Return the sluices that can be closed for a while, after a walk from the setting."""
    members = class_season(season, setting)
    # A walk that turns a sluice takes it from a mill with a spare; one that is stuck must feed such a mill.
    return tuple([sluice for sluice in range(len(season.valley))
                  if obstacle(needier(members, feeds(season.valley, setting, sluice))) is None])
