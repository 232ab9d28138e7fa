"""Connections: a walk from one setting to another, or the sluices that no walk turns."""

from millsluices.helpers import backward, path, with_room, with_spare
from millsluices.orders import patch_mills, patches, some_order
from millsluices.settings import differing, fed, turned
from millsluices.stuckness import season_arcs, stuck
from millsluices.walks import as_running


class Connection:
    """Whether a walk leads from one setting to another, such a walk, and the sluices that hinder it."""

    def __init__(self, joined, turns, blocked):
        self.joined = joined
        self.turns = turns
        self.blocked = blocked


def approach(season, setting, mills):
    """Return turns that bring a spare, or else room, to one of the mills."""
    counts = fed(season.valley, setting)
    spare = with_spare(season, counts)
    links = season_arcs(season, setting)
    if any([mill in spare for mill in mills]):
        # All of them have a spare then, or room would be there.
        return path(backward(links), mills, with_room(season, counts))[::-1]
    return path(links, mills, spare)[::-1]


def patch_turns(season, setting, patch):
    """Return a walk from the setting that turns each sluice of the patch, in all, once."""
    order = some_order(season, setting, patch)
    if order is not None:
        return order
    before = approach(season, setting, patch_mills(season.valley, patch))
    order = some_order(season, turned(setting, before), patch)
    return (*before, *order, *before[::-1])


def connecting_turns(season, one, sluices):
    """Return a walk from the setting that turns, in all, just these loose sluices."""
    turns = []
    for patch in patches(season.valley, sluices):
        turns = [*turns, *patch_turns(season, turned(one, turns), patch)]
    return tuple(turns)


def connect(season, one, two):
    """Return whether a walk leads from the one setting to the other."""
    start = as_running(season, one)
    goal = as_running(season, two)
    apart = differing(start, goal)
    hindering = stuck(season, start)
    blocked = tuple([sluice for sluice in apart if sluice in hindering])
    if len(blocked) > 0:
        return Connection(False, (), blocked)
    return Connection(True, connecting_turns(season, start, apart), ())
