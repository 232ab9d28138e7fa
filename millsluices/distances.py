"""Distances: the least price of a walk from one setting to another."""

from heapq import heappop, heappush

from millsluices.settings import turned
from millsluices.walks import as_running, turnable


def full_prices(season, prices):
    """Return the price of a turn of each sluice."""
    return (1,) * len(season.valley) if prices is None else tuple(prices)


def least_prices(season, start, costs):
    """Return a dict with the least price of a walk from the running setting to each setting of its class."""
    least = {}
    queue = [(0, start)]
    while queue:
        price, setting = heappop(queue)
        if setting not in least:
            least[setting] = price
            for sluice in turnable(season, setting):
                heappush(queue, (price + costs[sluice], turned(setting, (sluice,))))
    return least


def distance(season, one, two, *, prices=None):
    """Return the least price of a walk that leads from the one setting to the other, or None."""
    start = as_running(season, one)
    goal = as_running(season, two)
    return least_prices(season, start, full_prices(season, prices)).get(goal)


def distances(season, goal, *, prices=None):
    """Return the distance table of all settings of the class of the goal, in order."""
    least = least_prices(season, as_running(season, goal), full_prices(season, prices))
    return tuple([(setting, least[setting]) for setting in sorted(list(least))])


def table_numbers(table):
    """Return a dict with the number of each setting, or None if a setting has two of them."""
    numbers = {}
    for row in table:
        setting = tuple(row[0])
        if numbers.setdefault(setting, row[1]) != row[1]:
            return None
    return numbers


def fits_table(season, setting, numbers, costs):
    """Tell whether the setting runs, and its turns lead to settings with numbers not too great."""
    if setting not in season:
        return False
    for sluice in turnable(season, setting):
        after = turned(setting, (sluice,))
        if after not in numbers or numbers[after] > numbers[setting] + costs[sluice]:
            return False
    return True


def comes_nearer(setting, numbers, costs):
    """Tell whether a turn leads to a setting whose number is less by just the price of the turn."""
    for sluice, cost in enumerate(costs):
        after = turned(setting, (sluice,))
        if after in numbers and numbers[after] == numbers[setting] - cost:
            return True
    return False


def is_distance_table(season, goal, table, *, prices=None):
    """Tell whether the table is a distance table for the goal."""
    target = as_running(season, goal)
    costs = full_prices(season, prices)
    numbers = table_numbers(table)
    if numbers is None or numbers.get(target) != 0:
        return False
    return all([fits_table(season, setting, numbers, costs)
                and (setting == target or comes_nearer(setting, numbers, costs)) for setting in numbers])


def within(season, setting, turns=None):
    """Return all settings to which a walk of at most so many turns leads, in order."""
    least = least_prices(season, as_running(season, setting), full_prices(season, None))
    return tuple(sorted([after for after in least if turns is None or least[after] <= turns]))


def farthest(season, setting):
    """Return the greatest number of turns that a setting of the class needs, and all settings that need it."""
    least = least_prices(season, as_running(season, setting), full_prices(season, None))
    most = max(list(least.values()))
    return most, tuple(sorted([after for after in least if least[after] == most]))
