"""Orders: sluices that are turned once each."""

from millsluices.helpers import distinct, with_room, with_spare
from millsluices.settings import fed, turned
from millsluices.valleys import Valley


def shifts(valley, setting, sluices, mill):
    """Return which of the sluices the mill loses, and which it gains, if they are turned."""
    touching = [sluice for sluice in sluices if mill in valley.sluices[sluice]]
    lost = [sluice for sluice in touching if valley.sluices[sluice][setting[sluice]] == mill]
    gained = [sluice for sluice in touching if sluice not in lost]
    return lost, gained


def shortest_failures(season, setting, sluices):
    """Return rows of the sluices that are not walks from the running setting.

    For each reason that a row may fail, the shortest and first row is among them.
    """
    rows = [(sluice,) for sluice in sluices if sluice not in season.unset]
    for mill, count in enumerate(fed(season.valley, setting)):
        lost, gained = shifts(season.valley, setting, sluices, mill)
        spare = count - season.needs[mill]
        if len(lost) > spare:
            rows.append(tuple(lost[:spare + 1]))
        limit = season.limits[mill]
        if limit is not None and len(gained) > limit - count:
            rows.append(tuple(gained[:limit - count + 1]))
    return rows


def bad_order(season, setting, sluices):
    """Return the shortest and first row of different sluices of the set that is not a walk, or None."""
    if setting not in season:
        return ()
    rows = shortest_failures(season, setting, distinct(sluices))
    least = min([len(row) for row in rows], default=0)
    return min([row for row in rows if len(row) == least], default=None)


def any_order(season, setting, sluices):
    """Tell whether the setting runs and each order of the sluices is a walk."""
    return bad_order(season, setting, sluices) is None


def patches(valley, sluices):
    """Return the patches of the sluices: those that touch the same mills, or hang together by rows."""
    joined = Valley(valley.mills, [valley.sluices[sluice] for sluice in sluices])
    rows = [tuple([member for member in sluices if valley.sluices[member][0] in part]) for part in joined.parts]
    return [row for row in rows if len(row) > 0]


def patch_mills(valley, patch):
    """Return the lot of the mills that the patch touches."""
    return distinct([mill for sluice in patch for mill in valley.sluices[sluice]])


def level_patches(valley, setting, sluices):
    """Return those patches of the sluices whose turns change the number of no mill."""
    counts = fed(valley, setting)
    after = fed(valley, turned(setting, sluices))
    return [patch for patch in patches(valley, sluices)
            if all([counts[mill] == after[mill] for mill in patch_mills(valley, patch)])]


def are_served(season, setting, sluices):
    """Tell whether each level patch of the sluices touches a mill with a spare and a mill with room."""
    counts = fed(season.valley, setting)
    spare = with_spare(season, counts)
    room = with_room(season, counts)
    for patch in level_patches(season.valley, setting, sluices):
        mills = patch_mills(season.valley, patch)
        if not (any([mill in spare for mill in mills]) and any([mill in room for mill in mills])):
            return False
    return True


def next_in_order(season, setting, rest):
    """Return the first sluice of the rest after whose turn the others still have an order, or None."""
    for sluice in rest:
        after = turned(setting, (sluice,))
        others = [number for number in rest if number != sluice]
        if after in season and are_served(season, after, others):
            return sluice
    return None


def some_order(season, setting, sluices):
    """Return the first order of the sluices that is a walk, or None."""
    rest = distinct(sluices)
    if setting not in season or turned(setting, rest) not in season:
        return None
    order = []
    present = setting
    while len(rest) > 0:
        sluice = next_in_order(season, present, rest)
        if sluice is None:
            return None
        order.append(sluice)
        present = turned(present, (sluice,))
        rest = [number for number in rest if number != sluice]
    return tuple(order)
