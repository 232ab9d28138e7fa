"""Blockades: lots that show that some sluices are never turned."""

from millsluices.helpers import with_room, with_spare
from millsluices.settings import fed
from millsluices.stuckness import barred, season_arcs


def is_blockade(season, setting, low, high):
    """Tell whether the two lots are a blockade of the setting."""
    if setting not in season:
        return False
    links = season_arcs(season, setting)
    counts = fed(season.valley, setting)
    open_below = [*season.rigid, *with_spare(season, counts)]
    open_above = [*season.rigid, *with_room(season, counts)]
    holds_low = all([head in low for tail, head, _ in links if tail in low])
    holds_high = all([tail in high for tail, head, _ in links if head in high])
    free = [mill for mill in low if mill in open_below] + [mill for mill in high if mill in open_above]
    return holds_low and holds_high and len(free) == 0


def blocked_by(season, low, high):
    """Return the sluices that are set or touch a rigid mill or a mill of the lots."""
    return barred(season, [*low, *high])
