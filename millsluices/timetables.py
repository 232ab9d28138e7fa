"""Timetables: settings in which the seasons of a known row can change."""

from millsluices.fields import Field
from millsluices.seasons import check_valleys
from millsluices.walks import as_running


class Timetable:
    """Whether the mills can be kept running, the settings at the changes, or else the season not to be begun."""

    def __init__(self, kept, changes, day):
        self.kept = kept
        self.changes = changes
        self.day = day


class Row:
    """A known row of small seasons, and the walks that can be made between two changes."""

    def __init__(self, seasons, turns):
        self.seasons = seasons
        self.bound = turns
        self.field = Field(seasons[0].valley)
        self.grounds = [self.field.runners(season) for season in seasons]

    def walked(self, day, crowd):
        """Return the crowd of what the walks of the season make of the crowd; walks can be made backwards, too."""
        return self.field.ball(crowd, self.grounds[day], self.seasons[day].unset, self.bound)

    def begun(self, start):
        """Return a list of the crowds with which the seasons can be begun, in order, up to the first empty one."""
        found = [self.field.alone(start)]
        for day in range(1, len(self.seasons)):
            if found[-1] != 0:
                found.append(self.walked(day - 1, found[-1]) & self.grounds[day])
        return found

    def hopeful(self):
        """Return for each change the crowd of its settings after which all others can be made."""
        found = []
        for day in reversed(range(1, len(self.seasons))):
            after = self.walked(day, found[-1]) if len(found) > 0 else self.grounds[day]
            found.append(self.grounds[day - 1] & after)
        return found[::-1]


def timetable(seasons, setting, *, turns=None):
    """Return whether the mills can be kept running through the seasons, and the first changes."""
    check_valleys(*seasons)
    present = as_running(seasons[0], setting)
    row = Row(seasons, turns)
    begun = row.begun(present)
    if begun[-1] == 0:
        return Timetable(False, (), len(begun) - 1)
    changes = []
    for day, crowd in enumerate(row.hopeful()):
        present = row.field.first(row.walked(day, row.field.alone(present)) & crowd)
        changes.append(present)
    return Timetable(True, tuple(changes), None)


def is_timetable(seasons, setting, changes, *, turns=None):
    """Tell whether the setting runs in the first season and the settings are its changes."""
    if setting not in seasons[0] or len(changes) != len(seasons) - 1:
        return False
    row = Row(seasons, turns)
    present = setting
    for day, after in enumerate(changes):
        reach = row.walked(day, row.field.alone(present)) & row.grounds[day + 1]
        if not row.field.has(reach, after):
            return False
        present = after
    return True
