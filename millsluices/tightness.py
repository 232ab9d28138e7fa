"""Tight lots: lots that get just what they want, or must bear just what they can."""

from millsluices.errors import NothingRuns
from millsluices.helpers import arcs, backward, reached, with_room, with_spare
from millsluices.running import solved
from millsluices.settings import fed


def some_running(season):
    """Return a running setting; raise an error if nothing runs."""
    setting, _ = solved(season)
    if setting is None:
        raise NothingRuns()
    return setting


def mills_without(season, lot):
    """Return the lot of all other mills."""
    return tuple([mill for mill in range(season.valley.mills) if mill not in lot])


def greatest_tight_below(season):
    """Return the lot that is tight below and contains all others."""
    # A lot is tight below if it has no spare and no arc leaves it, in whichever running setting.
    setting = some_running(season)
    links = backward(arcs(season.valley, setting, season.unset))
    return mills_without(season, reached(links, with_spare(season, fed(season.valley, setting))))


def greatest_tight_above(season):
    """Return the lot that is tight above and contains all others."""
    # A lot is tight above if it has no room and no arc enters it, in whichever running setting.
    setting = some_running(season)
    links = arcs(season.valley, setting, season.unset)
    return mills_without(season, reached(links, with_room(season, fed(season.valley, setting))))


def unless_touched(lot, mills):
    """Return the lot, or None if one of the mills is in it."""
    return None if any([mill in lot for mill in mills]) else lot


def least_tight_below(season, mill):
    """Return the least lot that is tight below and contains the mill, or None."""
    setting = some_running(season)
    lot = reached(arcs(season.valley, setting, season.unset), (mill,))
    return unless_touched(lot, with_spare(season, fed(season.valley, setting)))


def least_tight_above(season, mill):
    """Return the least lot that is tight above and contains the mill, or None."""
    setting = some_running(season)
    lot = reached(backward(arcs(season.valley, setting, season.unset)), (mill,))
    return unless_touched(lot, with_room(season, fed(season.valley, setting)))
