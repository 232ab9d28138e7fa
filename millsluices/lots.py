"""Lots of mills: what they can gain and bear, and obstacles."""

from millsluices.helpers import distinct


def feeding_sides(season, sluice, lot):
    """Return the sides of the sluice that are let and feed a mill of the lot."""
    pair = season.valley.sluices[sluice]
    return [side for side in season.sides[sluice] if pair[side] in lot]


def gain(season, lot):
    """Return the number of the sluices that can feed the lot."""
    return len([sluice for sluice in range(len(season.sides)) if len(feeding_sides(season, sluice, lot)) > 0])


def load(season, lot):
    """Return the number of the sluices that must feed the lot."""
    return len([sluice for sluice, let in enumerate(season.sides)
                if len(let) > 0 and len(feeding_sides(season, sluice, lot)) == len(let)])


def want(season, lot):
    """Return the sum of the needs of the lot."""
    return sum([season.needs[mill] for mill in distinct(lot)])


def bear(season, lot):
    """Return the sum of the limits of the lot, or None if one of them is None."""
    limits = [season.limits[mill] for mill in distinct(lot)]
    return None if None in limits else sum(limits)


def bears_too_little(season, lot):
    """Tell whether the lot must bear more than it can."""
    most = bear(season, lot)
    return most is not None and load(season, lot) > most


def is_obstacle(season, value):
    """Tell whether the value is an obstacle of the season."""
    word, what = value
    if word == "sluice":
        return len(season.sides[what]) == 0
    if word == "mill":
        return bears_less_than_need(season, what)
    if word == "wants":
        return want(season, what) > gain(season, what)
    return bears_too_little(season, what)


def bears_less_than_need(season, mill):
    """Tell whether the limit of the mill is less than its need."""
    limit = season.limits[mill]
    return limit is not None and limit < season.needs[mill]
