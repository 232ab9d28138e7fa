"""Falling settings: those with which the seasons can stop a mill after a number of changes."""

from millsluices.lasting import Year
from millsluices.walks import as_running


def falls_after(calendar, index, setting, *, notice=True, turns=None):
    """Return the least number of the setting in a fall table, or None if it lasts."""
    start = as_running(calendar.seasons[index], setting)
    year = Year(calendar, notice, turns)
    for number, table in enumerate(year.stages()):
        if not year.field.has(table[index], start):
            return number
    return None


def fall_table(calendar, *, notice=True, turns=None):
    """Return the fall table of all settings that do not last, with their least numbers."""
    year = Year(calendar, notice, turns)
    tables = year.stages()
    rows = []
    for number in range(1, len(tables)):
        for index in range(len(calendar)):
            lost = tables[number - 1][index] & ~tables[number][index]
            rows.extend([(index, setting, number) for setting in year.field.listed(lost)])
    return tuple(sorted(rows))


def crowds_by_number(year, rows):
    """Return a dict with the crowd of the settings of the rows for each season, for each number, ascending."""
    found = {}
    for number, index, setting in sorted([(row[2], row[0], tuple(row[1])) for row in rows]):
        crowds = found.setdefault(number, [0] * len(year.grounds))
        crowds[index] = crowds[index] | year.field.alone(setting)
    return found


def all_fall(year, index, crowd, left):
    """Tell whether the settings of the crowd run in the season, but none stays if this is left of the seasons."""
    return crowd & ~year.grounds[index] == 0 and crowd & year.staying(index, left) == 0


def is_fall_table(calendar, rows, *, notice=True, turns=None):
    """Tell whether the rows are a fall table."""
    year = Year(calendar, notice, turns)
    # What the rows with lesser numbers have left of each season.
    left = list(year.grounds)
    for number, crowds in crowds_by_number(year, rows).items():
        if number < 1 or not all([all_fall(year, index, crowd, left) for index, crowd in enumerate(crowds)]):
            return False
        left = [old & ~fallen for old, fallen in zip(left, crowds)]
    return True
