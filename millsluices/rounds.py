"""Rounds: sluices that several hands turn in an order that nobody knows."""

from millsluices.fields import Field
from millsluices.helpers import distinct
from millsluices.orders import any_order
from millsluices.settings import turned
from millsluices.walks import as_running


def safe_crowds(field, season, hands):
    """Return a dict with the crowd of the settings from which each round is safe, in the order by size."""
    # A round is safe if all settings run that turning some of its sluices makes.
    crowds = {(): field.runners(season)}
    queue = [()]
    at = 0
    while at < len(queue):
        row = queue[at]
        for sluice in season.unset:
            if (len(row) == 0 or sluice > row[-1]) and (hands is None or len(row) < hands):
                crowd = crowds[row] & field.swapped(crowds[row], sluice)
                if crowd != 0:
                    longer = (*row, sluice)
                    crowds[longer] = crowd
                    queue.append(longer)
        at += 1
    del crowds[()]
    return crowds


def safe_rounds(season, setting, *, hands=None):
    """Return all rounds that are safe from the setting, in the order by size."""
    start = as_running(season, setting)
    field = Field(season.valley)
    return tuple([row for row, crowd in safe_crowds(field, season, hands).items() if field.has(crowd, start)])


def is_round(sluices, hands):
    """Tell whether so many hands can turn the different sluices."""
    return len(sluices) > 0 and (hands is None or len(sluices) <= hands)


def are_rounds(season, setting, rounds, *, hands=None):
    """Tell whether the setting runs and the rounds, in order, are safe."""
    present = tuple(setting)
    for row in rounds:
        sluices = distinct(row)
        if not is_round(sluices, hands) or not any_order(season, present, sluices):
            return False
        present = turned(present, sluices)
    return present in season


def rounds_left(field, crowds, goal):
    """Return a list of the crowds from which at the least 0, 1, 2 .. rounds lead to the goal."""
    known = field.alone(goal)
    found = [known]
    while found[-1] != 0:
        reach = 0
        for row, crowd in crowds.items():
            # Rounds can be made backwards, too.
            moved = found[-1] & crowd
            for sluice in row:
                moved = field.swapped(moved, sluice)
            reach = reach | moved
        found.append(reach & ~known)
        known = known | reach
    return found


def fewest_rounds(season, one, two, *, hands=None):
    """Return the least number of rounds that lead from the one setting to the other, or None."""
    rounds = first_rounds(season, one, two, hands=hands)
    return None if rounds is None else len(rounds)


def first_rounds(season, one, two, *, hands=None):
    """Return the fewest and first rounds that lead from the one setting to the other, or None."""
    present = as_running(season, one)
    goal = as_running(season, two)
    field = Field(season.valley)
    crowds = safe_crowds(field, season, hands)
    left = rounds_left(field, crowds, goal)
    numbers = [number for number, crowd in enumerate(left) if field.has(crowd, present)]
    if len(numbers) == 0:
        return None
    found = []
    for nearer in left[:numbers[0]][::-1]:
        good = [row for row, crowd in crowds.items()
                if field.has(crowd, present) and field.has(nearer, turned(present, row))]
        found.append(min(good))
        present = turned(present, found[-1])
    return tuple(found)
