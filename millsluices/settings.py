"""Settings: the side of each sluice of a valley."""

from millsluices.helpers import is_whole


def feeds(valley, setting, sluice):
    """Return the mill that the sluice feeds."""
    return valley.sluices[sluice][setting[sluice]]


def fed(valley, setting):
    """Return for each mill the number of the sluices that feed it."""
    counts = [0] * valley.mills
    for sluice, pair in enumerate(valley.sluices):
        mill = pair[setting[sluice]]
        counts[mill] = counts[mill] + 1
    return tuple(counts)


def turned(setting, turns):
    """Return the setting after all the turns."""
    sides = list(setting)
    for sluice in turns:
        sides[sluice] = 1 - sides[sluice]
    return tuple(sides)


def differing(one, two):
    """Return the sluices on which the two settings have different sides."""
    return tuple([sluice for sluice, side in enumerate(one) if side != two[sluice]])


def settings(valley):
    """Yield all settings of the valley, in order."""
    size = len(valley)
    for number in range(1 << size):
        yield tuple([number >> place & 1 for place in reversed(range(size))])


def is_setting(valley, value):
    """Tell whether the value, a sequence of whole numbers, is a setting of the valley."""
    return len(value) == len(valley) and all([is_whole(side) and side in (0, 1) for side in value])
