"""Classes: all settings to which a walk leads from a setting."""

from millsluices.running import first_running, running, running_count
from millsluices.stuckness import stuck


def class_key(season, setting):
    """Return the pairs of the stuck sluices and their sides."""
    return tuple([(sluice, setting[sluice]) for sluice in stuck(season, setting)])


def class_season(season, setting):
    """Return the season in which just the class of the setting runs."""
    return season.pinned(setting, stuck(season, setting))


def first_in_class(season, setting):
    """Return the first setting of the class."""
    return first_running(class_season(season, setting))


def class_size(season, setting):
    """Return the number of the settings of the class."""
    return running_count(class_season(season, setting))


def classes(season):
    """Yield the first setting of each class, in order."""
    known = {}
    for setting in running(season):
        key = class_key(season, setting)
        if key not in known:
            known[key] = True
            yield setting
