"""Loosening: lowered needs and raised limits with which every walk is possible."""

from millsluices.helpers import arcs, backward, distinct, reached, with_room, with_spare
from millsluices.settings import fed
from millsluices.tightness import some_running


def knot_of(links, mill):
    """Return the lot of the mills to which paths lead from the mill and from which paths lead to it."""
    behind = reached(backward(links), (mill,))
    return tuple([other for other in reached(links, (mill,)) if other in behind])


def lacks(knot, links, good):
    """Tell whether no arc leads from the knot to another one and none of its mills is good."""
    leads_on = any([link[0] in knot and link[1] not in knot for link in links])
    return not leads_on and not any([mill in good for mill in knot])


def loosened_mills(season, counts, links, knot):
    """Return the mills of the knot whose needs must be lowered, and those whose limits must be raised."""
    needy_below = lacks(knot, links, with_spare(season, counts))
    needy_above = lacks(knot, backward(links), with_room(season, counts))
    rigid = [mill for mill in season.rigid if mill in knot]
    if len(rigid) > 0:
        # If the knot is needy from both sides, then all its mills are rigid, and it has two of them at least.
        return (rigid[:1], rigid[1:]) if needy_below else ((), rigid)
    # A sluice feeds each mill of a knot that is needy from below, so that its need can be lowered.
    lowered = knot[:1] if needy_below else ()
    raised = knot[:1] if needy_above else ()
    return lowered, raised


def loosenings(season):
    """Return the mills with lowered needs and those with raised limits, as few as make all unset sluices loose."""
    setting = some_running(season)
    counts = fed(season.valley, setting)
    links = arcs(season.valley, setting, season.unset)
    lowered = []
    raised = []
    # All mills of these knots are touched by unset sluices.
    for knot in distinct([knot_of(links, mill) for link in links for mill in link[:2]]):
        lower, higher = loosened_mills(season, counts, links, knot)
        lowered.extend(lower)
        raised.extend(higher)
    return tuple(lowered), tuple(raised)


def loosening_count(season):
    """Return the number of the bounds that must be loosened."""
    lowered, raised = loosenings(season)
    return len(lowered) + len(raised)
