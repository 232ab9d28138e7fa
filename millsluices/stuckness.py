"""Stuck sluices: those that no walk turns."""

from millsluices.helpers import arcs, backward, reached, with_room, with_spare
from millsluices.settings import fed
from millsluices.walks import as_running


def barred(season, lot):
    """Return the sluices that are set or touch a rigid mill or a mill of the lot."""
    closed = [*season.rigid, *lot]
    return tuple([sluice for sluice, pair in enumerate(season.valley.sluices)
                  if len(season.sides[sluice]) < 2 or pair[0] in closed or pair[1] in closed])


def all_but(size, numbers):
    """Return the numbers from 0 below the size, without these."""
    return tuple([number for number in range(size) if number not in numbers])


def season_arcs(season, setting):
    """Return the arcs of the running setting: those of the unset sluices that touch no rigid mill."""
    return arcs(season.valley, setting, all_but(len(season.valley), barred(season, ())))


def starved(season, setting):
    """Return the starved mills."""
    present = as_running(season, setting)
    saved = reached(backward(season_arcs(season, present)), with_spare(season, fed(season.valley, present)))
    return all_but(season.valley.mills, [*season.rigid, *saved])


def saturated(season, setting):
    """Return the saturated mills."""
    present = as_running(season, setting)
    saved = reached(season_arcs(season, present), with_room(season, fed(season.valley, present)))
    return all_but(season.valley.mills, [*season.rigid, *saved])


def stuck(season, setting):
    """Return the stuck sluices."""
    return barred(season, [*starved(season, setting), *saturated(season, setting)])


def loose(season, setting):
    """Return the loose sluices."""
    return all_but(len(season.valley), stuck(season, setting))
