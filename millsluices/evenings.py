"""Evenings: settings in which the miller can wait for the next jam."""

from millsluices.fits import checked_start
from millsluices.helpers import distinct, subsets
from millsluices.jams import Outlook


class JamGame:
    """Days and nights in which at most `most` sluices jam, one by one."""

    def __init__(self, season, wishes, most):
        self.outlook = Outlook(season, wishes)
        self.field = self.outlook.field
        self.most = most

    def next_jams(self, jam):
        """Return the sluices that may jam next."""
        return [sluice for sluice in self.outlook.movable if sluice not in jam and len(jam) < self.most]

    def withstanding(self):
        """Return a dict with the crowd of the mornings that withstand, for each jam."""
        jams = [chosen for chosen in subsets(self.outlook.movable) if len(chosen) <= self.most]
        found = {}
        # Larger jams first: a morning withstands if an evening withstands all the jams that may follow.
        for jam in reversed(jams):
            evenings = self.good_evenings(found, jam)
            found[jam] = self.outlook.surviving(jam) & self.outlook.walked(evenings, jam)
        return found

    def good_evenings(self, mornings, jam):
        """Return the crowd of the evenings that are among the mornings of all the larger jams that may follow."""
        crowd = self.outlook.ground
        for sluice in self.next_jams(jam):
            crowd = crowd & mornings.get(larger(jam, sluice), 0)
        return crowd

    def evening_for(self, mornings, jam, morning):
        """Return the first of the good evenings to which a walk leads from the morning."""
        reach = self.outlook.walked(self.field.alone(morning), jam)
        return self.field.first(reach & self.good_evenings(mornings, jam))


def larger(jam, sluice):
    """Return the jam with one more sluice."""
    return distinct([*jam, sluice])


def withstands(season, wishes, setting, *, most):
    """Tell whether the setting withstands jams that come one by one."""
    start = checked_start(season, wishes, setting)
    game = JamGame(season, wishes, most)
    return game.field.has(game.withstanding()[()], start)


def evening_table(season, wishes, setting, *, most):
    """Return an evening table of the setting, or None if there is none."""
    start = checked_start(season, wishes, setting)
    game = JamGame(season, wishes, most)
    mornings = game.withstanding()
    if not game.field.has(mornings[()], start):
        return None
    evenings = {}
    stack = [((), start)]
    while stack:
        place = stack.pop()
        if place not in evenings:
            jam, morning = place
            evenings[place] = game.evening_for(mornings, jam, morning)
            stack.extend([(larger(jam, sluice), evenings[place]) for sluice in game.next_jams(jam)])
    return tuple(sorted([(*row, evening) for row, evening in evenings.items()]))


def mornings_of(field, rows):
    """Return a dict with the crowd of the mornings of the rows, for each jam."""
    found = {}
    for jam, morning, _ in rows:
        found[tuple(jam)] = found.get(tuple(jam), 0) | field.alone(morning)
    return found


def is_jam(game, jam):
    """Tell whether the sequence is an ascending tuple of different sluices that may be jammed together."""
    return (len(jam) <= game.most and tuple(jam) == distinct(jam)
            and all([sluice in game.outlook.movable for sluice in jam]))


def is_evening_table(season, wishes, setting, rows, *, most):
    """Tell whether the rows are an evening table of the setting."""
    start = checked_start(season, wishes, setting)
    game = JamGame(season, wishes, most)
    if not all([is_jam(game, jam) for jam, _, _ in rows]):
        return False
    field = game.field
    mornings = mornings_of(field, rows)
    if not field.has(mornings.get((), 0), start):
        return False
    surviving = {jam: game.outlook.surviving(jam) for jam in mornings}
    good = {jam: game.good_evenings(mornings, jam) for jam in mornings}
    for present, morning, evening in rows:
        known = tuple(present)
        reach = game.outlook.walked(field.alone(morning) & surviving[known], known)
        if not field.has(reach & good[known], evening):
            return False
    return True
