"""Lasting settings: those that can be kept running through every row of seasons that may come."""

from millsluices.fields import Field
from millsluices.walks import as_running


class Year:
    """A calendar of small seasons, and the walks that can be made between two changes.

    A table has a crowd for each season.
    """

    def __init__(self, calendar, notice, turns):
        self.calendar = calendar
        self.notice = notice
        self.bound = turns
        self.field = Field(calendar.seasons[0].valley)
        self.grounds = [self.field.runners(season) for season in calendar.seasons]

    def walked(self, index, crowd):
        """Return the crowd of what the walks of the season make of the crowd; walks can be made backwards, too."""
        return self.field.ball(crowd, self.grounds[index], self.calendar.seasons[index].unset, self.bound)

    def goals(self, index, table):
        """Return for each following season the settings of the table in which it can be begun."""
        return [self.grounds[later] & table[later] for later in self.calendar.follows[index]]

    def staying(self, index, table):
        """Return the crowd of the settings of the season that meet the condition of a lasting table."""
        if self.notice:
            found = self.grounds[index]
            for goal in self.goals(index, table):
                found = found & self.walked(index, goal)
            return found
        common = self.grounds[index]
        for goal in self.goals(index, table):
            common = common & goal
        return self.walked(index, common)

    def stages(self):
        """Return a list of tables: all running settings, and what is kept of each table, until nothing is lost."""
        tables = [self.grounds]
        after = self.staying_table(self.grounds)
        while after != tables[-1]:
            tables.append(after)
            after = self.staying_table(after)
        return tables

    def staying_table(self, table):
        """Return for each season the crowd of the settings that meet the condition of a lasting table."""
        return [self.staying(index, table) for index in range(len(table))]


def lasting(calendar, *, notice=True, turns=None):
    """Return for each season all settings that last, in order."""
    year = Year(calendar, notice, turns)
    tables = year.stages()
    return tuple([year.field.listed(crowd) for crowd in tables[-1]])


def lasts(calendar, index, setting, *, notice=True, turns=None):
    """Tell whether the setting lasts in the season."""
    start = as_running(calendar.seasons[index], setting)
    year = Year(calendar, notice, turns)
    tables = year.stages()
    return year.field.has(tables[-1][index], start)


def is_lasting_table(calendar, table, *, notice=True, turns=None):
    """Tell whether the table is a lasting table."""
    year = Year(calendar, notice, turns)
    crowds = [year.field.crowd(members) for members in table]
    kept = year.staying_table(crowds)
    return all([crowd & ~kept[index] == 0 for index, crowd in enumerate(crowds)])


def change_setting(calendar, index, setting, later, *, turns=None):
    """Return the first setting in which the season can be left for the following one and that lasts in it, or None."""
    start = as_running(calendar.seasons[index], setting)
    year = Year(calendar, True, turns)
    tables = year.stages()
    return year.field.first(year.walked(index, year.field.alone(start)) & tables[-1][later])
