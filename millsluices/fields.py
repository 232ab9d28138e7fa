"""Fields: sets of settings of a small valley.

The settings are numbered in their order. A crowd is a set of them, written as a number: bit n tells whether setting n
belongs to it. So a turn of all settings of a crowd at once takes a few shifts.
"""

from millsluices.settings import turned


def halves(size, sluice):
    """Return the crowd of the settings in which the sluice has side 0, and that in which it has side 1."""
    step = 1 << (size - 1 - sluice)
    whole = (1 << (1 << size)) - 1
    zeros = whole // ((1 << step) + 1)
    return zeros, zeros << step


class Field:
    """All settings of a small valley."""

    def __init__(self, valley):
        self.size = len(valley)
        self.whole = (1 << (1 << self.size)) - 1
        self.having = tuple([halves(self.size, sluice) for sluice in range(self.size)])

    def number(self, setting):
        """Return the number of the setting."""
        number = 0
        for side in setting:
            number = 2 * number + side
        return number

    def numbered(self, number):
        """Return the setting with the number."""
        return tuple([number >> place & 1 for place in reversed(range(self.size))])

    def alone(self, setting):
        """Return the crowd of the single setting."""
        return 1 << self.number(setting)

    def crowd(self, members):
        """Return the crowd of the settings."""
        found = 0
        for setting in members:
            found = found | self.alone(setting)
        return found

    def has(self, crowd, setting):
        """Tell whether the setting belongs to the crowd."""
        return (crowd >> self.number(setting)) & 1 == 1

    def listed(self, crowd):
        """Return the settings of the crowd, in order."""
        return tuple([self.numbered(number) for number in range(1 << self.size) if (crowd >> number) & 1 == 1])

    def first(self, crowd):
        """Return the first setting of the crowd, or None."""
        return None if crowd == 0 else self.numbered((crowd & -crowd).bit_length() - 1)

    def swapped(self, crowd, sluice):
        """Return the crowd of the settings that a turn of the sluice makes of those of the crowd."""
        zeros, ones = self.having[sluice]
        step = 1 << (self.size - 1 - sluice)
        return (crowd & zeros) << step | (crowd & ones) >> step

    def near(self, crowd, sluices):
        """Return the crowd, with all settings that one turn of one of the sluices makes of its settings."""
        found = crowd
        for sluice in sluices:
            found = found | self.swapped(crowd, sluice)
        return found

    def ball(self, crowd, ground, sluices, turns):
        """Return the crowd of what at most so many turns of the sluices make of the crowd without leaving the ground.

        If `turns` is None, then any number of turns may be made.
        """
        found = crowd & ground
        made = 0
        while turns is None or made < turns:
            more = self.near(found, sluices) & ground
            if more == found:
                return found
            found = more
            made += 1
        return found

    def rings(self, crowd, ground, sluices):
        """Return a list of the crowds of what at most 0, 1, 2 .. turns make of the crowd without leaving the ground."""
        found = [crowd & ground]
        more = self.ball(crowd, ground, sluices, 1)
        while more != found[-1]:
            found.append(more)
            more = self.ball(more, ground, sluices, 1)
        return found

    def nearer(self, rings, sluices, setting):
        """Return the first of the sluices whose turn leads the setting nearer to the innermost ring.

        The setting is in one of the rings, but not in the innermost one.
        """
        far = min([turns for turns, crowd in enumerate(rings) if self.has(crowd, setting)])
        good = [sluice for sluice in sluices if self.has(rings[far - 1], turned(setting, (sluice,)))]
        return good[0]

    def way(self, rings, sluices, setting):
        """Return a shortest walk that leads the setting to the innermost ring."""
        turns = []
        present = setting
        while not self.has(rings[0], present):
            turns.append(self.nearer(rings, sluices, present))
            present = turned(setting, turns)
        return tuple(turns)

    def feeding(self, valley, mill):
        """Return a list with the crowd of the settings in which 0, 1, 2 .. sluices feed the mill."""
        crowds = [self.whole]
        for sluice in valley.touching(mill):
            zeros, ones = self.having[sluice]
            to_mill, away = (ones, zeros) if valley.sluices[sluice][1] == mill else (zeros, ones)
            crowds = [(same & away) | (fewer & to_mill) for same, fewer in zip([*crowds, 0], [0, *crowds])]
        return crowds

    def runners(self, season):
        """Return the crowd of the settings that run in the season."""
        found = self.whole
        for sluice, let in enumerate(season.sides):
            for side in (0, 1):
                if side not in let:
                    found = found & self.having[sluice][1 - side]
        for mill, need in enumerate(season.needs):
            limit = season.limits[mill]
            kept = 0
            for count, crowd in enumerate(self.feeding(season.valley, mill)):
                if count >= need and (limit is None or count <= limit):
                    kept = kept | crowd
            found = found & kept
        return found


def running_settings(season):
    """Return a dict that has the settings of the small season that run, in order, as its keys."""
    field = Field(season.valley)
    return {setting: True for setting in field.listed(field.runners(season))}
