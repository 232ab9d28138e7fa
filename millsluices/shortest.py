"""Shortest walks."""

from millsluices.distances import full_prices, least_prices
from millsluices.settings import turned
from millsluices.walks import as_running, turnable


def first_step(season, setting, costs, left):
    """Return the first sluice whose turn leads nearer to the goal by its whole price.

    `left` has the least price from each setting of the class to the goal; the setting is not the goal.
    """
    for sluice in turnable(season, setting):
        if left[turned(setting, (sluice,))] == left[setting] - costs[sluice]:
            return sluice
    return None


def shortest_walk(season, one, two, *, prices=None):
    """Return the first of the walks with the least price that lead from the one setting to the other, or None."""
    present = as_running(season, one)
    goal = as_running(season, two)
    costs = full_prices(season, prices)
    # A walk can be made backwards; so the prices from the goal are those to the goal.
    left = least_prices(season, goal, costs)
    if present not in left:
        return None
    turns = []
    while present != goal:
        sluice = first_step(season, present, costs, left)
        turns.append(sluice)
        present = turned(present, (sluice,))
    return tuple(turns)


def walk_count(season, one, two):
    """Return the number of the walks with the fewest turns that lead from the one setting to the other."""
    start = as_running(season, one)
    goal = as_running(season, two)
    left = least_prices(season, goal, full_prices(season, None))
    if start not in left:
        return 0
    counts = {start: 1}
    for _ in range(left[start]):
        counts = counts_after_step(season, counts, left)
    return counts[goal]


def counts_after_step(season, counts, left):
    """Return to which settings one more turn towards the goal leads, and in how many ways."""
    found = {}
    for setting, ways in counts.items():
        for sluice in turnable(season, setting):
            after = turned(setting, (sluice,))
            if left[after] < left[setting]:
                found[after] = found.get(after, 0) + ways
    return found
