"""Nights: a foe turns some sluices, all at the same time."""

from millsluices.fields import Field
from millsluices.helpers import distinct
from millsluices.walks import as_running


def night_crowd(field, crowd, foes, most):
    """Return the crowd of what the nights make of the crowd; the foes are different sluices."""
    found = crowd
    for _ in range(min(most, len(foes))):
        found = field.near(found, foes)
    return found


def nights(season, setting, foes, *, most=1):
    """Return the settings after all possible nights, in order."""
    start = as_running(season, setting)
    field = Field(season.valley)
    return field.listed(night_crowd(field, field.alone(start), distinct(foes), most))


def braced(season, setting, foes, *, most=1):
    """Tell whether the settings after all possible nights run."""
    return all([after in season for after in nights(season, setting, foes, most=most)])
