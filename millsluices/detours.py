"""Detours: sluices that must be turned there and back so that the others can be turned."""

from millsluices.distances import full_prices
from millsluices.helpers import arcs, backward, distinct, path, subsets, with_room, with_spare
from millsluices.orders import level_patches, patch_mills
from millsluices.settings import differing, fed
from millsluices.stuckness import loose
from millsluices.walks import as_running


def serves(season, setting, apart, sluices):
    """Tell whether the sluices bring a spare and room to all level patches of the differing ones."""
    valley = season.valley
    counts = fed(valley, setting)
    spare = with_spare(season, counts)
    room = with_room(season, counts)
    links = arcs(valley, setting, [*apart, *sluices])
    for patch in level_patches(valley, setting, apart):
        mills = patch_mills(valley, patch)
        if path(links, mills, spare) is None or path(backward(links), mills, room) is None:
            return False
    return True


def possible_sluices(season, one, apart):
    """Return the sluices of which detours consist, or None if a differing sluice is stuck."""
    free = loose(season, one)
    if any([sluice not in free for sluice in apart]):
        return None
    return tuple([sluice for sluice in free if sluice not in apart])


def least_detour(season, one, two, *, prices=None):
    """Return the detour with the least price, of several the first one, or None if no walk leads there."""
    start = as_running(season, one)
    goal = as_running(season, two)
    apart = differing(start, goal)
    choice = possible_sluices(season, start, apart)
    if choice is None:
        return None
    costs = full_prices(season, prices)
    found = [(sum([costs[sluice] for sluice in sluices]), sluices) for sluices in subsets(choice)
             if serves(season, start, apart, sluices)]
    _, detour = min(found)
    return detour


def is_detour(season, one, two, sluices):
    """Tell whether a walk leads from the one setting to the other and the sluices are a detour."""
    start = as_running(season, one)
    goal = as_running(season, two)
    apart = differing(start, goal)
    choice = possible_sluices(season, start, apart)
    chosen = distinct(sluices)
    if choice is None or any([sluice not in choice for sluice in chosen]):
        return False
    return serves(season, start, apart, chosen)
