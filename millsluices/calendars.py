"""Calendars: seasons, and which of them may follow one another."""

from millsluices.errors import BadFollow
from millsluices.seasons import check_valleys, first_fault


class Calendar:
    """Seasons, numbered from 0, and for each of them the numbers of those that may follow it."""

    def __init__(self, seasons, follows):
        check_valleys(*seasons)
        kept = tuple([tuple(numbers) for numbers in follows])
        good = [all([0 <= number < len(seasons) for number in numbers]) for numbers in kept]
        fault = first_fault(len(seasons), good)
        if fault is not None:
            raise BadFollow(fault)
        self.seasons = tuple(seasons)
        self.follows = kept

    def __len__(self):
        return len(self.seasons)

    def __iter__(self):
        return iter(self.seasons)

    def __eq__(self, other):
        return isinstance(other, Calendar) and self.seasons == other.seasons and self.follows == other.follows

    @staticmethod
    def yearly(seasons):
        """Return the calendar in which each season is followed by the next one, and the last by the first."""
        return Calendar(seasons, [((number + 1) % len(seasons),) for number in range(len(seasons))])
