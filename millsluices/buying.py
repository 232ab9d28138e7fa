"""Buying: sluices of a foe that the miller must have."""

from millsluices.helpers import distinct, subsets
from millsluices.holding import holds
from millsluices.walks import as_running


def fewest_to_buy(season, setting, foes, *, most=1, turns=None):
    """Return the first, by size, of the sets of the foe's sluices without which the setting holds."""
    start = as_running(season, setting)
    theirs = distinct(foes)
    for bought in subsets(theirs):
        left = [sluice for sluice in theirs if sluice not in bought]
        if holds(season, start, left, most=most, turns=turns):
            return bought
    return theirs
