"""What is possible: the settings that histories of a watch have."""

from millsluices.fields import Field
from millsluices.settings import turned


class Past:
    """The settings that a watch lets, as crowds."""

    def __init__(self, watch):
        self.bound = watch.turns
        self.movable = watch.rule.unset
        self.field = Field(watch.rule.valley)
        self.ground = self.field.runners(watch.rule)
        self.seen = [self.ground & self.field.runners(report) for report in watch.reports]

    def rings(self, crowd):
        """Return a list of the crowds of what at most 0, 1, 2 .. turns of one night make of the crowd."""
        found = self.field.rings(crowd, self.ground, self.movable)
        return found if self.bound is None else found[:self.bound + 1]

    def chained(self, seen, sluices):
        """Return for each of the days that were seen so the settings to which nights lead from the first of them.

        In the nights none but these sluices are turned.
        """
        found = seen[:1]
        for crowd in seen[1:]:
            found.append(crowd & self.field.ball(found[-1], self.ground, sluices, self.bound))
        return found

    def begun(self):
        """Return for each day the settings to which what was seen up to it may lead."""
        return self.chained(self.seen, self.movable)

    def ended(self):
        """Return for each day the settings from which all that was seen later may be reached."""
        # Walks can be made backwards, too.
        return self.chained(self.seen[::-1], self.movable)[::-1]

    def days(self):
        """Return for each day the settings that are possible."""
        return [before & after for before, after in zip(self.begun(), self.ended())]

    def way(self, setting, crowd):
        """Return a shortest walk from the setting to one of the crowd."""
        return self.field.way(self.field.rings(crowd, self.ground, self.movable), self.movable, setting)

    def history(self, days, day, setting):
        """Return a history that has the setting, one of those that are possible on the days, on the day."""
        nights = []
        present = setting
        for crowd in days[day + 1:]:
            nights.append(self.way(present, crowd))
            present = turned(present, nights[-1])
        present = setting
        for crowd in days[:day][::-1]:
            nights.insert(0, self.way(present, crowd)[::-1])
            present = turned(present, nights[0])
        return present, tuple(nights)


def possible(watch, day):
    """Return all settings that are possible on the day, in order."""
    past = Past(watch)
    return past.field.listed(past.days()[day])


def history_through(watch, day, setting):
    """Return a history that has the setting on the day, or None."""
    past = Past(watch)
    days = past.days()
    return past.history(days, day, tuple(setting)) if past.field.has(days[day], setting) else None
