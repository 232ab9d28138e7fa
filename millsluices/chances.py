"""Chances: what becomes of a setting if sluices are drawn by lot."""

from math import gcd

from millsluices.fields import Field, running_settings
from millsluices.fits import checked_start
from millsluices.settings import turned


def fraction(top, bottom):
    """Return the fraction in lowest terms."""
    common = gcd(top, bottom)
    return top // common, bottom // common


def share(season, setting, wish):
    """Return which share of the settings of the class runs in the wish."""
    start = checked_start(season, (wish,), setting)
    field = Field(season.valley)
    members = field.ball(field.alone(start), field.runners(season), season.unset, None)
    good = members & field.runners(wish)
    return fraction(len(field.listed(good)), len(field.listed(members)))


def after_hour(ways, allowed, size):
    """Return the numbers of ways to each setting after one more of the sluices was drawn."""
    found = {}
    for setting, many in ways.items():
        for sluice in range(size):
            after = turned(setting, (sluice,))
            kept = after if after in allowed else setting
            found[kept] = found.get(kept, 0) + many
    return found


def chance(season, setting, wish, hours):
    """Return the chance that after so many hours the setting runs in the wish."""
    ways = {checked_start(season, (wish,), setting): 1}
    allowed = running_settings(season)
    size = len(season.valley)
    # Without sluices nothing is drawn.
    for _ in range(hours if size > 0 else 0):
        ways = after_hour(ways, allowed, size)
    good = [many for after, many in ways.items() if after in wish]
    return fraction(sum(good), sum(list(ways.values())))
