"""Telling: which settings can be told apart by tries in the dark."""

from millsluices.fields import running_settings
from millsluices.harms import traced_turns
from millsluices.settings import turned
from millsluices.walks import as_running


def telling_tries(season, one, two):
    """Return the shortest and first tries that give different answers from the two settings, or None."""
    start = (as_running(season, one), as_running(season, two))
    allowed = running_settings(season)
    came = {start: None}
    queue = [start]
    at = 0
    while at < len(queue):
        place = queue[at]
        for sluice in range(len(season.valley)):
            after = (turned(place[0], (sluice,)), turned(place[1], (sluice,)))
            moved = after[0] in allowed
            if moved != (after[1] in allowed):
                return (*traced_turns(came, place), sluice)
            if moved and after not in came:
                came[after] = (place, sluice)
                queue.append(after)
        at += 1
    return None


def in_order(keys):
    """Return a number for each key: equal ones for equal keys, in the order in which they come first."""
    known = {}
    numbers = []
    for key in keys:
        numbers.append(known.setdefault(key, len(known)))
    return numbers


def alike_numbers(season):
    """Return a dict with a number for each running setting, in order; just those that are alike have equal ones."""
    members = list(running_settings(season))
    places = {setting: place for place, setting in enumerate(members)}
    sluices = range(len(season.valley))
    nexts = [[places.get(turned(setting, (sluice,)), place) for sluice in sluices]
             for place, setting in enumerate(members)]
    finer = in_order([tuple([after != place for after in row]) for place, row in enumerate(nexts)])
    numbers = []
    # Settings are told apart by their next answers first, then by those of the settings after a try, and so on.
    while finer != numbers:
        numbers = finer
        finer = in_order([(numbers[place], *[numbers[after] for after in row]) for place, row in enumerate(nexts)])
    return {setting: number for setting, number in zip(members, numbers)}


def alike_groups(season):
    """Return all running settings in groups of settings that are alike."""
    groups = {}
    for setting, number in alike_numbers(season).items():
        groups.setdefault(number, []).append(setting)
    return tuple([tuple(group) for group in list(groups.values())])


def pair_after(allowed, pair, sluice):
    """Return the pair of the settings after a try of the sluice, or None if the answers differ."""
    one = turned(pair[0], (sluice,))
    two = turned(pair[1], (sluice,))
    if (one in allowed) != (two in allowed):
        return None
    return (one, two) if one in allowed else pair


def is_alike_table(season, table):
    """Tell whether the table is a table of pairs of settings that are alike."""
    allowed = running_settings(season)
    pairs = {(tuple(row[0]), tuple(row[1])): True for row in table}
    for pair in pairs:
        if pair[0] not in allowed or pair[1] not in allowed:
            return False
        if not all([pair_after(allowed, pair, sluice) in pairs for sluice in range(len(season.valley))]):
            return False
    return True
