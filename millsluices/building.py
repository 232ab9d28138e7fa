"""Building: new sluices with which something runs."""

from millsluices.errors import HasLimits, NoSide
from millsluices.helpers import arcs, path, reached, with_spare
from millsluices.running import first_sides
from millsluices.settings import fed, turned


def check_open(season):
    """Raise an error if a mill has a limit, or if no side of a sluice is let."""
    for mill, limit in enumerate(season.limits):
        if limit is not None:
            raise HasLimits(mill)
    for sluice, let in enumerate(season.sides):
        if len(let) == 0:
            raise NoSide(sluice)


def well_fed(season):
    """Return a setting in which the mills lack as few sluices as possible, all together."""
    valley = season.valley
    setting = first_sides(season)
    for mill, need in enumerate(season.needs):
        way = ()
        while way is not None and fed(valley, setting)[mill] < need:
            way = path(arcs(valley, setting, season.unset), (mill,), with_spare(season, fed(valley, setting)))
            if way is not None:
                setting = turned(setting, way)
    return setting


def lacking(season, setting):
    """Return the mills that lack sluices in the setting, each as often as one is lacking."""
    counts = fed(season.valley, setting)
    return [mill for mill, need in enumerate(season.needs) for _ in range(need - counts[mill])]


def shortfall(season):
    """Return the least number of new sluices with which a setting runs."""
    check_open(season)
    return len(lacking(season, well_fed(season)))


def wanting_lot(season):
    """Return a lot that wants as much more than it can gain as any lot does."""
    check_open(season)
    setting = well_fed(season)
    # Every sluice that can feed these mills does feed them, and none of them has a spare.
    return reached(arcs(season.valley, setting, season.unset), lacking(season, setting))


def other_mill(mill):
    """Return another mill; a valley has at least two of them."""
    return 1 if mill == 0 else 0


def mending(season):
    """Return the pairs of the fewest new sluices with which a setting runs."""
    check_open(season)
    return tuple([(mill, other_mill(mill)) for mill in lacking(season, well_fed(season))])
