"""Waits: hands that wait for each other, so that every weaving is safe."""

from millsluices.helpers import subsets
from millsluices.weaving import advanced, safe_positions, safe_weaving


def keeps(position, waits):
    """Tell whether the hands have waited for each other before they came to the position."""
    return all([position[hand] <= step or position[other] >= count for hand, step, other, count in waits])


def secured(good, whole, waits):
    """Tell whether the weavings that keep the waits pass good positions alone and can all be made whole."""
    start = (0,) * len(whole)
    known = {start: True}
    stack = [start]
    while stack:
        position = stack.pop()
        moves = [advanced(position, hand) for hand in range(len(whole)) if position[hand] < whole[hand]]
        nexts = [move for move in moves if keeps(move, waits)]
        if position not in good or (position != whole and len(nexts) == 0):
            return False
        for after in nexts:
            if after not in known:
                known[after] = True
                stack.append(after)
    return True


def secures(season, setting, rows, waits):
    """Tell whether the waits secure the rows."""
    whole = tuple([len(turns) for turns in rows])
    return secured(safe_positions(season, setting, rows), whole, waits)


def waits_for(season, setting, rows):
    """Return waits that secure the rows, or None."""
    weaving = safe_weaving(season, setting, rows)
    if weaving is None:
        return None
    # Each turn waits for the one before it, so that no other weaving is left.
    found = []
    made = [0] * len(rows)
    for index, hand in enumerate(weaving):
        before = weaving[index - 1]
        if index > 0 and before != hand:
            found.append((hand, made[hand], before, made[before]))
        made[hand] = made[hand] + 1
    return tuple(found)


def all_waits(whole):
    """Return all waits between hands with so many turns, ascending."""
    hands = range(len(whole))
    return [(hand, step, other, count) for hand in hands for step in range(whole[hand])
            for other in hands if other != hand for count in range(1, whole[other] + 1)]


def fewest_waits(season, setting, rows):
    """Return the fewest and first waits that secure the rows, or None."""
    if safe_weaving(season, setting, rows) is None:
        return None
    whole = tuple([len(turns) for turns in rows])
    good = safe_positions(season, setting, rows)
    possible = all_waits(whole)
    for waits in subsets(possible):
        if secured(good, whole, waits):
            return waits
    return None
