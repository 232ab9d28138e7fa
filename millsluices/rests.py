"""Mills that rest so that a walk leads from one setting to another."""

from millsluices.helpers import has_part, subsets
from millsluices.settings import differing
from millsluices.stuckness import all_but, loose
from millsluices.walks import as_running


def joins(season, one, two, lot):
    """Tell whether a walk leads from the one setting to the other while the mills of the lot rest."""
    free = loose(season.resting(lot), one)
    return all([sluice in free for sluice in differing(one, two)])


def least_rests(season, one, two):
    """Yield all lots that join the settings and of which no proper subset does, in the order by size."""
    start = as_running(season, one)
    goal = as_running(season, two)
    mills = tuple(range(season.valley.mills))
    found = []
    for lot in subsets(mills):
        if not has_part(lot, found) and joins(season, start, goal, lot):
            found.append(lot)
            yield lot


def fewest_rests(season, one, two):
    """Return the first of the least lots that join the settings."""
    lots = list(least_rests(season, one, two))
    return lots[0]


def must_rest(season, one, two):
    """Return the lot of the mills that are in every lot that joins the settings."""
    start = as_running(season, one)
    goal = as_running(season, two)
    mills = range(season.valley.mills)
    # Resting more mills never hinders; so the lot of all other mills decides about a mill.
    return tuple([mill for mill in mills if not joins(season, start, goal, all_but(len(mills), (mill,)))])
