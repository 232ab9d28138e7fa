"""Winning: how soon the miller can meet a wish against a foe."""

from millsluices.fits import checked_start
from millsluices.holding import Siege


def wins_after(season, wish, setting, foes, *, most=1, turns=None, shared=False):
    """Return the least number of nights after which the miller can surely meet the wish, or None."""
    start = checked_start(season, (wish,), setting)
    siege = Siege(season, foes, most, turns, shared)
    field = siege.field
    won = siege.daily(field.runners(wish))
    number = 0
    while not field.has(won, start):
        after = won | siege.daily(siege.calm(won))
        if after == won:
            return None
        won = after
        number += 1
    return number
