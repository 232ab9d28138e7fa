"""Freeing: new sluices with which every walk is possible."""

from millsluices.building import check_open, other_mill
from millsluices.tightness import least_tight_below


def holds_another(lot, lots):
    """Tell whether one of the lots has some of the mills of the lot alone, but not all of them."""
    return any([len(other) < len(lot) and all([mill in lot for mill in other]) for other in lots])


def least_tight_lots(season):
    """Return the least lots that are tight below and touched by an unset sluice, ordered by their least mills."""
    check_open(season)
    touched = [mill for sluice in season.unset for mill in season.valley.sluices[sluice]]
    found = [least_tight_below(season, mill) for mill in range(season.valley.mills)]
    lots = {lot: True for lot in found if lot is not None}
    # A least lot is found first for the least of its mills, so that the lots stand in order.
    return tuple([lot for lot in lots if not holds_another(lot, lots) and any([mill in touched for mill in lot])])


def freeing(season):
    """Return the fewest pairs of new sluices with which all unset sluices are loose."""
    lots = least_tight_lots(season)
    # A new sluice that touches a lot gives it a spare; one between two lots serves both of them.
    ends = [lot[0] for lot in lots]
    pairs = [(ends[index], ends[index + 1]) for index in range(0, len(ends) - 1, 2)]
    if len(ends) % 2 == 1:
        pairs.append((ends[-1], other_mill(ends[-1])))
    return tuple(pairs)
