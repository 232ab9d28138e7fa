"""Valleys: mills and the sluices that they share."""

from millsluices.errors import BadSluice
from millsluices.helpers import is_whole


def joins_mills(mills, pair):
    """Tell whether the pair consists of two different mills of a valley with so many mills."""
    good = [is_whole(mill) and 0 <= mill < mills for mill in pair]
    return good == [True, True] and pair[0] != pair[1]


class Valley:
    """Mills, numbered from 0, and a pair of mills for each sluice."""

    def __init__(self, mills, sluices=()):
        pairs = tuple([tuple(item) for item in sluices])
        for index, pair in enumerate(pairs):
            if not joins_mills(mills, pair):
                raise BadSluice(index)
        self.mills = mills
        self.sluices = pairs

    def __len__(self):
        return len(self.sluices)

    def __iter__(self):
        return iter(self.sluices)

    def __eq__(self, other):
        return isinstance(other, Valley) and self.mills == other.mills and self.sluices == other.sluices

    def __add__(self, other):
        moved = [(first + self.mills, second + self.mills) for first, second in other.sluices]
        return Valley(self.mills + other.mills, [*self.sluices, *moved])

    def touching(self, mill):
        """Return the sluices that touch the mill."""
        return tuple([sluice for sluice, pair in enumerate(self.sluices) if mill in pair])

    def other(self, sluice, mill):
        """Return the other mill of a sluice that touches the mill."""
        first, second = self.sluices[sluice]
        return second if mill == first else first

    def built(self, pairs):
        """Return the valley with more sluices behind the old ones."""
        return Valley(self.mills, [*self.sluices, *pairs])

    def without(self, sluices):
        """Return the valley without these sluices."""
        return Valley(self.mills, [pair for sluice, pair in enumerate(self.sluices) if sluice not in sluices])

    @property
    def parts(self):
        """The connected parts, ordered by their least mills."""
        # Each mill takes over the least mill that it can hear of, until nothing is new.
        least = list(range(self.mills))
        changed = True
        while changed:
            changed = False
            for first, second in self.sluices:
                low = min(least[first], least[second])
                if least[first] != low or least[second] != low:
                    least[first] = low
                    least[second] = low
                    changed = True
        heads = [mill for mill in range(self.mills) if least[mill] == mill]
        return tuple([tuple([member for member, root in enumerate(least) if root == head]) for head in heads])

    @staticmethod
    def ring(mills):
        """Return the valley whose mills stand in a ring."""
        return Valley(mills, [(mill, (mill + 1) % mills) for mill in range(mills)])

    @staticmethod
    def row(mills):
        """Return the valley whose mills stand in a row."""
        return Valley(mills, [(mill, mill + 1) for mill in range(mills - 1)])
