"""Plain counts and searches over all settings of small valleys, to hold the program against."""

import itertools
import random

from millsluices.seasons import Season
from millsluices.valleys import Valley


def all_settings(valley):
    return list(itertools.product((0, 1), repeat=len(valley.sluices)))


def counts(valley, setting):
    numbers = [0] * valley.mills
    for pair, side in zip(valley.sluices, setting):
        numbers[pair[side]] += 1
    return tuple(numbers)


def runs(season, setting):
    if any(side not in let for side, let in zip(setting, season.sides)):
        return False
    return all(need <= count and (limit is None or count <= limit)
               for count, need, limit in zip(counts(season.valley, setting), season.needs, season.limits))


def all_running(season):
    return [setting for setting in all_settings(season.valley) if runs(season, setting)]


def flip(setting, sluice):
    return setting[:sluice] + (1 - setting[sluice],) + setting[sluice + 1:]


def flips(setting, sluices):
    for sluice in sluices:
        setting = flip(setting, sluice)
    return setting


def walkable(season, setting, turns):
    """Whether the setting and all settings after the turns run."""
    if not runs(season, setting):
        return False
    for sluice in turns:
        setting = flip(setting, sluice)
        if not runs(season, setting):
            return False
    return True


def reach(season, start, prices=None):
    """The least price of a walk to each setting of the class, by relaxing until nothing changes."""
    prices = prices or [1] * len(start)
    good = set(all_running(season))
    best = {start: 0}
    queue = [start]
    while queue:
        setting = queue.pop(0)
        for sluice, price in enumerate(prices):
            after = flip(setting, sluice)
            if after in good and best[setting] + price < best.get(after, 10 ** 9):
                best[after] = best[setting] + price
                queue.append(after)
    return best


def class_list(season):
    """All classes, each as an ascending list, in the order of their first settings."""
    found = []
    known = set()
    for setting in all_running(season):
        if setting not in known:
            members = sorted(reach(season, setting))
            known.update(members)
            found.append(members)
    return found


def all_lots(size):
    """All subsets of the numbers below size, in the order by size."""
    return [lot for many in range(size + 1) for lot in itertools.combinations(range(size), many)]


def random_valley(rng, most_mills=4, most_sluices=6):
    mills = rng.randint(1, most_mills)
    many = rng.randint(0, most_sluices) if mills > 1 else 0
    return Valley(mills, [tuple(rng.sample(range(mills), 2)) for _ in range(many)])


def random_season(rng, valley=None, tight=0.5):
    """A season of a random valley; needs and limits are near the numbers of a random setting."""
    if valley is None:
        valley = random_valley(rng)
    base = counts(valley, [rng.randint(0, 1) for _ in valley.sluices])
    needs, limits, sides = [], [], []
    for count in base:
        needs.append(max(0, count - rng.choice((0, 0, 1, 2))))
        limits.append(None if rng.random() > tight else max(0, count + rng.choice((0, 0, 1, 1, 2))))
    for _ in valley.sluices:
        sides.append((0, 1) if rng.random() < 0.85 else rng.choice(((0,), (1,))))
    if rng.random() < 0.1 and needs:
        needs[rng.randrange(len(needs))] += 1
    if rng.random() < 0.05 and sides:
        sides[rng.randrange(len(sides))] = ()
    return Season(valley, needs=needs, limits=limits, sides=sides)


def random_seasons(seed, many, **options):
    rng = random.Random(seed)
    return [random_season(rng, **options) for _ in range(many)]


def dense_seasons(seed, many, mills=4, sluices=7):
    """Seasons without set sluices, with more sluices than mills."""
    rng = random.Random(seed)
    found = []
    for _ in range(many):
        valley = Valley(mills, [tuple(rng.sample(range(mills), 2)) for _ in range(sluices)])
        base = counts(valley, [rng.randint(0, 1) for _ in range(sluices)])
        found.append(Season(valley, needs=[max(0, count - rng.randint(0, 1)) for count in base],
                            limits=[None if rng.random() < 0.5 else count + rng.randint(0, 1) for count in base]))
    return found


def large_season(seed, mills=24, sluices=48, slack=1):
    """A season up to the bounds of point 6 in which something runs, and a setting that runs in it."""
    rng = random.Random(seed)
    valley = Valley(mills, [tuple(rng.sample(range(mills), 2)) for _ in range(sluices)])
    setting = tuple(rng.randint(0, 1) for _ in range(sluices))
    base = counts(valley, setting)
    needs = [max(0, count - rng.randint(0, slack)) for count in base]
    limits = [rng.choice((None, count + rng.randint(0, slack))) for count in base]
    return Season(valley, needs=needs, limits=limits), setting


def as_lists(value):
    """The value with lists instead of tuples, at every level."""
    return [as_lists(item) for item in value] if isinstance(value, (tuple, list)) else value


def only_tuples(value):
    """Whether the value has tuples instead of lists, at every level."""
    if isinstance(value, tuple):
        return all(only_tuples(item) for item in value)
    return value is None or isinstance(value, (int, str))
