"""Weaving: several hands turn sluices, each in its own order, at the same time."""

from millsluices.settings import turned


def setting_at(setting, rows, position):
    """Return the setting after each hand has made so many of its turns."""
    present = tuple(setting)
    for turns, made in zip(rows, position):
        present = turned(present, turns[:made])
    return present


def positions(rows):
    """Return all positions, in order."""
    found = [()]
    for turns in rows:
        found = [(*position, made) for position in found for made in range(len(turns) + 1)]
    return found


def advanced(position, hand):
    """Return the position after one more turn of the hand."""
    return tuple([made + 1 if number == hand else made for number, made in enumerate(position)])


def safe_positions(season, setting, rows):
    """Return a dict that has the positions whose settings run, in order, as its keys."""
    return {position: True for position in positions(rows) if setting_at(setting, rows, position) in season}


def always_safe(season, setting, rows):
    """Tell whether every weaving is safe."""
    return bad_weaving(season, setting, rows) is None


def one_by_one(position):
    """Return the first of the weavings that lead to the position: the turns of the first hand first."""
    return tuple([hand for hand, made in enumerate(position) for _ in range(made)])


def bad_weaving(season, setting, rows):
    """Return the shortest and first weaving that is not safe, or None."""
    good = safe_positions(season, setting, rows)
    bad = [one_by_one(position) for position in positions(rows) if position not in good]
    least = min([len(weaving) for weaving in bad], default=0)
    return min([weaving for weaving in bad if len(weaving) == least], default=None)


def weavings_left(good, whole):
    """Return a dict with the number of ways in which each of the good positions can be made whole.

    The good positions stand in order, and those that cannot be made whole are left out.
    """
    found = {}
    for position in list(good)[::-1]:
        nexts = [advanced(position, hand) for hand in range(len(whole))]
        number = 1 if position == whole else sum([found.get(after, 0) for after in nexts])
        if number > 0:
            found[position] = number
    return found


def safe_weaving(season, setting, rows):
    """Return the first whole weaving that is safe, or None."""
    whole = tuple([len(turns) for turns in rows])
    left = weavings_left(safe_positions(season, setting, rows), whole)
    position = (0,) * len(whole)
    if position not in left:
        return None
    weaving = []
    while position != whole:
        hands = [hand for hand in range(len(whole)) if advanced(position, hand) in left]
        weaving.append(hands[0])
        position = advanced(position, hands[0])
    return tuple(weaving)


def weaving_count(season, setting, rows):
    """Return the number of the whole weavings that are safe."""
    whole = tuple([len(turns) for turns in rows])
    return weavings_left(safe_positions(season, setting, rows), whole).get((0,) * len(whole), 0)
