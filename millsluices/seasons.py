"""Seasons: what the mills need and bear, and which sides the sluices may have."""

from millsluices.errors import BadLimit, BadNeed, BadSides, ValleysDiffer
from millsluices.helpers import is_count, is_whole
from millsluices.settings import fed

BOTH = (0, 1)


def first_fault(size, good):
    """Return the first index with no item, an item too many or one that is not good; or None."""
    for index in range(max(size, len(good))):
        if index >= size or index >= len(good) or not good[index]:
            return index
    return None


def checked_needs(valley, needs):
    """Return the needs as they are kept."""
    if needs is None:
        return (0,) * valley.mills
    fault = first_fault(valley.mills, [is_count(need) for need in needs])
    if fault is not None:
        raise BadNeed(fault)
    return tuple(needs)


def checked_limits(valley, limits):
    """Return the limits as they are kept."""
    if limits is None:
        return (None,) * valley.mills
    fault = first_fault(valley.mills, [limit is None or is_count(limit) for limit in limits])
    if fault is not None:
        raise BadLimit(fault)
    return tuple(limits)


def are_sides(sides):
    """Tell whether the tuple has sides of a sluice in order, each at most once."""
    return all([is_whole(side) for side in sides]) and sides in (BOTH, (0,), (1,), ())


def checked_sides(valley, sides):
    """Return the sides that are let as they are kept."""
    if sides is None:
        return (BOTH,) * len(valley)
    rows = tuple([tuple(let) for let in sides])
    fault = first_fault(len(valley), [are_sides(let) for let in rows])
    if fault is not None:
        raise BadSides(fault)
    return rows


def smaller_limit(one, two):
    """Return the smaller of two limits, of which None is the largest."""
    if one is None or two is None:
        return two if one is None else one
    return min(one, two)


def larger_limit(one, two):
    """Return the larger of two limits, of which None is the largest."""
    return None if one is None or two is None else max(one, two)


class Season:
    """The needs and limits of the mills of a valley, and the sides that its sluices may have."""

    def __init__(self, valley, *, needs=None, limits=None, sides=None):
        self.valley = valley
        self.needs = checked_needs(valley, needs)
        self.limits = checked_limits(valley, limits)
        self.sides = checked_sides(valley, sides)

    def __eq__(self, other):
        return (isinstance(other, Season) and self.valley == other.valley and self.needs == other.needs
                and self.limits == other.limits and self.sides == other.sides)

    def __contains__(self, setting):
        return len(self.strayed(setting)) == 0 and len(self.out(setting)) == 0

    def __and__(self, other):
        if self.valley != other.valley:
            raise ValleysDiffer()
        needs = [max(one, two) for one, two in zip(self.needs, other.needs)]
        limits = [smaller_limit(one, two) for one, two in zip(self.limits, other.limits)]
        sides = [[side for side in one if side in two] for one, two in zip(self.sides, other.sides)]
        return Season(self.valley, needs=needs, limits=limits, sides=sides)

    def __or__(self, other):
        if self.valley != other.valley:
            raise ValleysDiffer()
        needs = [min(one, two) for one, two in zip(self.needs, other.needs)]
        limits = [larger_limit(one, two) for one, two in zip(self.limits, other.limits)]
        sides = [[side for side in BOTH if side in one or side in two] for one, two in zip(self.sides, other.sides)]
        return Season(self.valley, needs=needs, limits=limits, sides=sides)

    @property
    def rigid(self):
        """The lot of the mills whose limit is equal to their need."""
        return tuple([mill for mill, need in enumerate(self.needs) if self.limits[mill] == need])

    @property
    def unset(self):
        """The sluices that may have both sides."""
        return tuple([sluice for sluice, let in enumerate(self.sides) if len(let) == 2])

    def out(self, setting):
        """Return the lot of the mills that are fed by too few or too many sluices."""
        found = []
        for mill, count in enumerate(fed(self.valley, setting)):
            limit = self.limits[mill]
            if count < self.needs[mill] or (limit is not None and count > limit):
                found.append(mill)
        return tuple(found)

    def strayed(self, setting):
        """Return the sluices whose side is not let."""
        return tuple([sluice for sluice, let in enumerate(self.sides) if setting[sluice] not in let])

    def with_sides(self, sides):
        """Return the season with other sides that are let."""
        return Season(self.valley, needs=self.needs, limits=self.limits, sides=sides)

    def pinned(self, setting, sluices):
        """Return the season in which these sluices may have no side but that in the setting."""
        return self.with_sides([[side for side in let if sluice not in sluices or side == setting[sluice]]
                                for sluice, let in enumerate(self.sides)])

    def freed(self, sluices):
        """Return the season in which these sluices may have both sides."""
        return self.with_sides([BOTH if sluice in sluices else let for sluice, let in enumerate(self.sides)])

    def resting(self, lot):
        """Return the season in which the mills of the lot need nothing and bear any number."""
        needs = [0 if mill in lot else need for mill, need in enumerate(self.needs)]
        limits = [None if mill in lot else limit for mill, limit in enumerate(self.limits)]
        return Season(self.valley, needs=needs, limits=limits, sides=self.sides)

    def loosened(self, lowered, raised):
        """Return the season with needs lowered and limits raised by one for each occurrence of a mill."""
        needs = [max(0, need - lowered.count(mill)) for mill, need in enumerate(self.needs)]
        limits = [None if limit is None else limit + raised.count(mill) for mill, limit in enumerate(self.limits)]
        return Season(self.valley, needs=needs, limits=limits, sides=self.sides)

    def built(self, pairs):
        """Return the season with more sluices, which may have both sides, behind the old ones."""
        valley = self.valley.built(pairs)
        more = (BOTH,) * (len(valley) - len(self.sides))
        return Season(valley, needs=self.needs, limits=self.limits, sides=[*self.sides, *more])

    def without(self, sluices):
        """Return the season without these sluices."""
        sides = [let for sluice, let in enumerate(self.sides) if sluice not in sluices]
        return Season(self.valley.without(sluices), needs=self.needs, limits=self.limits, sides=sides)

    @staticmethod
    def only(valley, setting):
        """Return the season, without needs and limits, in which the setting alone runs."""
        return Season(valley, sides=[(side,) for side in setting])


def check_valleys(first, *others):
    """Raise an error if the valleys of the seasons are not all equal."""
    for other in others:
        if first.valley != other.valley:
            raise ValleysDiffer()


def narrowed(first, *others):
    """Return the season in which just those settings run that run in all of these seasons."""
    season = first
    for other in others:
        season = season & other
    return season
