"""The turns of all nights: how many there were at least, and of which sluices."""

from millsluices.errors import NoHistory
from millsluices.possible import Past
from millsluices.settings import turned


def after_night(past, before, seen):
    """Return a list of the settings that are seen after one more night, if at most 0, 1, 2 .. turns are made in all.

    The list `before` has the same for the day before.
    """
    reach = []
    for total, crowd in enumerate(before):
        for turns, ring in enumerate(past.rings(crowd)):
            if total + turns == len(reach):
                reach.append(0)
            reach[total + turns] = reach[total + turns] | (ring & seen)
    return reach


def turn_crowds(past):
    """Return for each day a list of the settings to which nights with at most 0, 1, 2 .. turns in all may lead."""
    found = [[past.seen[0]]]
    for seen in past.seen[1:]:
        found.append(after_night(past, found[-1], seen))
    return found


def least_number(crowds):
    """Return the number of the first of the crowds that has a setting, or None."""
    return min([number for number, crowd in enumerate(crowds) if crowd != 0], default=None)


def least_turns(watch):
    """Return the least number of turns of a history, or None."""
    return least_number(turn_crowds(Past(watch))[-1])


def least_history(watch):
    """Return a history with the least number of turns, or None."""
    past = Past(watch)
    days = turn_crowds(past)
    total = least_number(days[-1])
    if total is None:
        return None
    present = past.field.first(days[-1][total])
    nights = []
    for crowds in days[:-1][::-1]:
        # What is not turned in the night has been turned in the nights before it.
        rings = past.rings(past.field.alone(present))
        origins = [rings[min(total - rest, len(rings) - 1)] & crowd for rest, crowd in enumerate(crowds[:total + 1])]
        total = least_number(origins)
        nights.insert(0, past.way(present, origins[total])[::-1])
        present = turned(present, nights[0])
    return present, tuple(nights)


def checked_past(watch):
    """Return what the watch lets; raise an error if it has no history."""
    past = Past(watch)
    if past.begun()[-1] == 0:
        raise NoHistory()
    return past


def surely_turned(watch):
    """Return the sluices that are turned in every history."""
    past = checked_past(watch)
    found = []
    for sluice in past.movable:
        others = [number for number in past.movable if number != sluice]
        if past.chained(past.seen, others)[-1] == 0:
            found.append(sluice)
    return tuple(found)


def turning(past, before, after, sluice):
    """Tell whether a walk of one night turns the sluice.

    The rings `before` tell what few turns make of the settings before the night, the rings `after` from which
    settings few turns lead to those that are possible after the night.
    """
    for made, ring in enumerate(before):
        rest = len(after) - 1 if past.bound is None else min(past.bound - made, len(after)) - 1
        if rest >= 0 and past.field.swapped(ring, sluice) & after[rest] != 0:
            return True
    return False


def never_turned(watch):
    """Return the sluices that are turned in no history."""
    past = checked_past(watch)
    nights = [(past.rings(before), past.rings(after)) for before, after in zip(past.begun(), past.ended()[1:])]
    found = []
    for sluice in range(past.field.size):
        if not any([turning(past, near, far, sluice) for near, far in nights]):
            found.append(sluice)
    return tuple(found)
