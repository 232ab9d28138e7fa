"""Plain counts and searches over all settings of small valleys, to hold the program against."""

import itertools
import random

from millsluices.seasons import Season
from millsluices.valleys import Valley
from millsluices.watches import Watch


def all_settings(valley):
    return list(itertools.product((0, 1), repeat=len(valley.sluices)))


def counts(valley, setting):
    numbers = [0] * valley.mills
    for pair, side in zip(valley.sluices, setting):
        numbers[pair[side]] += 1
    return tuple(numbers)


def runs(season, setting):
    if any(side not in let for side, let in zip(setting, season.sides)):
        return False
    return all(need <= count and (limit is None or count <= limit)
               for count, need, limit in zip(counts(season.valley, setting), season.needs, season.limits))


def all_running(season):
    return [setting for setting in all_settings(season.valley) if runs(season, setting)]


def flip(setting, sluice):
    return setting[:sluice] + (1 - setting[sluice],) + setting[sluice + 1:]


def flips(setting, sluices):
    for sluice in sluices:
        setting = flip(setting, sluice)
    return setting


def walkable(season, setting, turns):
    """Whether the setting and all settings after the turns run."""
    if not runs(season, setting):
        return False
    for sluice in turns:
        setting = flip(setting, sluice)
        if not runs(season, setting):
            return False
    return True


def reach(season, start, prices=None):
    """The least price of a walk to each setting of the class, by relaxing until nothing changes."""
    prices = prices or [1] * len(start)
    good = set(all_running(season))
    best = {start: 0}
    queue = [start]
    while queue:
        setting = queue.pop(0)
        for sluice, price in enumerate(prices):
            after = flip(setting, sluice)
            if after in good and best[setting] + price < best.get(after, 10 ** 9):
                best[after] = best[setting] + price
                queue.append(after)
    return best


def class_list(season):
    """All classes, each as an ascending list, in the order of their first settings."""
    found = []
    known = set()
    for setting in all_running(season):
        if setting not in known:
            members = sorted(reach(season, setting))
            known.update(members)
            found.append(members)
    return found


def all_lots(size):
    """All subsets of the numbers below size, in the order by size."""
    return [lot for many in range(size + 1) for lot in itertools.combinations(range(size), many)]


def random_valley(rng, most_mills=4, most_sluices=6):
    mills = rng.randint(1, most_mills)
    many = rng.randint(0, most_sluices) if mills > 1 else 0
    return Valley(mills, [tuple(rng.sample(range(mills), 2)) for _ in range(many)])


def random_season(rng, valley=None, tight=0.5):
    """A season of a random valley; needs and limits are near the numbers of a random setting."""
    if valley is None:
        valley = random_valley(rng)
    base = counts(valley, [rng.randint(0, 1) for _ in valley.sluices])
    needs, limits, sides = [], [], []
    for count in base:
        needs.append(max(0, count - rng.choice((0, 0, 1, 2))))
        limits.append(None if rng.random() > tight else max(0, count + rng.choice((0, 0, 1, 1, 2))))
    for _ in valley.sluices:
        sides.append((0, 1) if rng.random() < 0.85 else rng.choice(((0,), (1,))))
    if rng.random() < 0.1 and needs:
        needs[rng.randrange(len(needs))] += 1
    if rng.random() < 0.05 and sides:
        sides[rng.randrange(len(sides))] = ()
    return Season(valley, needs=needs, limits=limits, sides=sides)


def random_seasons(seed, many, **options):
    rng = random.Random(seed)
    return [random_season(rng, **options) for _ in range(many)]


def dense_seasons(seed, many, mills=4, sluices=7):
    """Seasons without set sluices, with more sluices than mills."""
    rng = random.Random(seed)
    found = []
    for _ in range(many):
        valley = Valley(mills, [tuple(rng.sample(range(mills), 2)) for _ in range(sluices)])
        base = counts(valley, [rng.randint(0, 1) for _ in range(sluices)])
        found.append(Season(valley, needs=[max(0, count - rng.randint(0, 1)) for count in base],
                            limits=[None if rng.random() < 0.5 else count + rng.randint(0, 1) for count in base]))
    return found


def large_season(seed, mills=24, sluices=48, slack=1):
    """A season up to the bounds of point 6 in which something runs, and a setting that runs in it."""
    rng = random.Random(seed)
    valley = Valley(mills, [tuple(rng.sample(range(mills), 2)) for _ in range(sluices)])
    setting = tuple(rng.randint(0, 1) for _ in range(sluices))
    base = counts(valley, setting)
    needs = [max(0, count - rng.randint(0, slack)) for count in base]
    limits = [rng.choice((None, count + rng.randint(0, slack))) for count in base]
    return Season(valley, needs=needs, limits=limits), setting


def as_lists(value):
    """The value with lists instead of tuples, at every level."""
    return [as_lists(item) for item in value] if isinstance(value, (tuple, list)) else value


def only_tuples(value):
    """Whether the value has tuples instead of lists, at every level."""
    if isinstance(value, tuple):
        return all(only_tuples(item) for item in value)
    return value is None or isinstance(value, (int, str))


def unset_sluices(season):
    return [sluice for sluice, let in enumerate(season.sides) if len(let) == 2]


def ball(season, start, turns=None, sluices=None):
    """All settings to which a walk of at most so many turns of the sluices leads from the setting."""
    sluices = unset_sluices(season) if sluices is None else sluices
    found, edge, made = {start}, [start], 0
    while edge and (turns is None or made < turns):
        edge = [after for setting in edge for after in {flip(setting, sluice) for sluice in sluices}
                if runs(season, after)]
        edge = [after for after in dict.fromkeys(edge) if after not in found]
        found.update(edge)
        made += 1
    return found


def jammed_ball(season, start, jam):
    """All settings to which a walk leads that turns no sluice of the jam."""
    return ball(season, start, sluices=[sluice for sluice in unset_sluices(season) if sluice not in jam])


def random_wishes(rng, season, many):
    """So many seasons of the same valley, each with a few needs, limits and sides of its own."""
    found = []
    for _ in range(many):
        base = counts(season.valley, [rng.randint(0, 1) for _ in season.valley.sluices])
        needs = [max(0, count - rng.choice((0, 1, 1, 2))) if rng.random() < 0.6 else 0 for count in base]
        limits = [count + rng.randint(0, 1) if rng.random() < 0.2 else None for count in base]
        sides = [(0, 1) if rng.random() < 0.9 else rng.choice(((0,), (1,))) for _ in season.valley.sluices]
        found.append(Season(season.valley, needs=needs, limits=limits, sides=sides))
    return found


def random_calendar_seasons(rng, many, **options):
    """So many seasons of one random valley."""
    valley = random_valley(rng, **options)
    return [random_season(rng, valley=valley, tight=0.3) for _ in range(many)]


def same_as(test, call, expected):
    """Hold an answer of True or False against the expected one; it must be one of these two values."""
    test.assertIs(call, bool(expected))


def random_follows(rng, many):
    """For each of so many seasons the numbers of some that may follow it; some are repeated."""
    return [[rng.randrange(many) for _ in range(rng.choice((0, 1, 1, 1, 2, 2, 3)))] for _ in range(many)]


def can_go_on(calendar, index, setting, table, notice, turns):
    """The condition of point 37 for a running setting, with "stands in the table at j" for "lasts in j"."""
    reach = ball(calendar.seasons[index], setting, turns)

    def changes(after, later):
        return runs(calendar.seasons[later], after) and after in table[later]

    if notice:
        return all(any(changes(after, later) for after in reach) for later in calendar.follows[index])
    return any(all(changes(after, later) for later in calendar.follows[index]) for after in reach)


def plain_falling(calendar, notice, turns):
    """All settings that do not last, as pairs with the season, and the stage at which each of them is lost."""
    table = [set(all_running(season)) for season in calendar.seasons]
    numbers = {}
    number = 1
    while True:
        lost = [(index, setting) for index, members in enumerate(table) for setting in members
                if not can_go_on(calendar, index, setting, table, notice, turns)]
        if not lost:
            return numbers
        for index, setting in lost:
            numbers[index, setting] = number
            table[index].discard(setting)
        number += 1


def plain_nights(setting, foes, most):
    """The settings after all nights in which at most so many of the foes are turned."""
    foes = sorted(set(foes))
    return {flips(setting, lot) for many in range(min(most, len(foes)) + 1)
            for lot in itertools.combinations(foes, many)}


def plain_days(season, setting, foes, turns, shared):
    """The evenings to which a day of the miller leads."""
    own = [sluice for sluice in unset_sluices(season) if shared or sluice not in foes]
    return ball(season, setting, turns, own)


def plain_storm(season, foes, most, turns, shared):
    """All settings that do not hold, and the number of nights within which each of them falls."""
    left = set(all_running(season))
    days = {setting: plain_days(season, setting, foes, turns, shared) for setting in left}
    found = {}
    number = 1
    while True:
        lost = [setting for setting in left
                if not any(plain_nights(evening, foes, most) <= left for evening in days[setting])]
        if not lost:
            return found
        found.update((setting, number) for setting in lost)
        left.difference_update(lost)
        number += 1


def random_foes(rng, season):
    """Some of the unset sluices, in any order, some of them repeated."""
    unset = unset_sluices(season)
    foes = [sluice for sluice in unset if rng.random() < rng.choice((0.2, 0.5, 0.9))]
    foes += foes[:1]
    rng.shuffle(foes)
    return foes


def random_habit_moves(rng, size, states=3, many=6):
    """Moves that do not contradict each other; some are repeated."""
    found = {}
    for _ in range(rng.randint(0, many) if size else 0):
        found.setdefault((rng.randrange(states), rng.randrange(size)), rng.randrange(states))
    moves = [(state, sluice, after) for (state, sluice), after in found.items()]
    return moves + moves[:1]


def let_rows(moves, longest):
    """All rows of turns of at most so many turns that the moves let, by size, with the states after them."""
    table = {(state, sluice): after for state, sluice, after in moves}
    level = [((), 0)]
    found = list(level)
    for _ in range(longest):
        level = [((*row, sluice), table[state, sluice]) for row, state in level
                 for origin, sluice in sorted(table) if origin == state]
        found += level
    return found


def random_watch(rng, most_sluices=4, most_reports=3):
    """A watch of a random valley; some of its reports tell much, others little."""
    mills, size = rng.choice((1, 2, 2, 3, 3, 4)), rng.randint(1, most_sluices)
    valley = Valley(mills, [rng.sample(range(mills), 2) for _ in range(size)] if mills > 1 else ())
    size = len(valley)
    rule = random_season(rng, valley=valley, tight=0.2)
    if rng.random() < 0.5:
        rule = Season(valley, needs=[max(0, need - 1) for need in rule.needs])
    reports = []
    for wish in random_wishes(rng, rule, rng.randint(1, most_reports)):
        seen = [sluice for sluice in range(size) if rng.random() < 0.6]
        pinned = Season(valley).pinned([rng.randint(0, 1) for _ in range(size)], seen)
        reports.append(rng.choice((wish, pinned, pinned, Season(valley))))
    return Watch(rule, reports, turns=rng.choice((None, None, 0, 1, 2, 2, 3, 10 ** 20)))


def seen_on(watch, day):
    return [setting for setting in all_running(watch.rule) if runs(watch.reports[day], setting)]


def day_chains(watch):
    """The settings on all days, for all histories of the watch."""
    chains = [(setting,) for setting in seen_on(watch, 0)]
    for day in range(1, len(watch.reports)):
        seen = seen_on(watch, day)
        reach = {chain[-1]: ball(watch.rule, chain[-1], watch.turns) for chain in chains}
        chains = [(*chain, after) for chain in chains for after in seen if after in reach[chain[-1]]]
    return chains


def plain_is_history(watch, history):
    first, nights = history
    days = [tuple(first)]
    for night in nights:
        if not walkable(watch.rule, days[-1], night) or (watch.turns is not None and len(night) > watch.turns):
            return False
        days.append(flips(days[-1], night))
    return len(days) == len(watch.reports) and all(setting in seen_on(watch, day) for day, setting in enumerate(days))


def random_rows(rng, size, hands=3, turns=3):
    """For each hand some turns, often of the same sluices."""
    sluices = list(range(size))
    few = rng.sample(sluices, min(size, 3))
    return [[rng.choice(few if rng.random() < 0.7 else sluices) for _ in range(rng.randint(0, turns))] if size else []
            for _ in range(rng.randint(1, hands))]


def weavings(rows):
    """All weavings of the rows, whole or not, in the order by size."""
    level, found = [()], []
    while level:
        found += level
        level = [(*weaving, hand) for weaving in level for hand, turns in enumerate(rows)
                 if weaving.count(hand) < len(turns)]
    return found


def is_whole(rows, weaving):
    return all(weaving.count(hand) == len(turns) for hand, turns in enumerate(rows))


def woven(rows, weaving):
    """The turns of the weaving."""
    made = [0] * len(rows)
    turns = []
    for hand in weaving:
        turns.append(rows[hand][made[hand]])
        made[hand] += 1
    return turns


def all_loose(season):
    """Whether in every running setting each unset sluice is turned by some walk; there must be such a setting."""
    members = class_list(season)
    return bool(members) and all(len({setting[sluice] for setting in group}) == 2
                                 for group in members for sluice in unset_sluices(season))


def random_open_season(rng, most_mills=4, most_sluices=6, lack=0):
    """A season without limits, in which each sluice may have a side; `lack` is how much more than that is needed."""
    mills = rng.randint(2, most_mills)
    valley = Valley(mills, [rng.sample(range(mills), 2) for _ in range(rng.randint(0, most_sluices))])
    sides = [(0, 1) if rng.random() < 0.8 else rng.choice(((0,), (1,))) for _ in valley.sluices]
    needs = list(counts(valley, [rng.choice(let) for let in sides]))
    for _ in range(rng.randint(0, 2)):
        mill = rng.randrange(mills)
        needs[mill] = max(0, needs[mill] - 1)
    for _ in range(rng.randint(0, lack)):
        needs[rng.randrange(mills)] += 1
    return Season(valley, needs=needs, sides=sides)


def all_pairs(mills):
    """All pairs that new sluices may have; which of the two mills is named first makes no difference."""
    return list(itertools.combinations(range(mills), 2))


def plain_try(season, setting, sluice):
    """The setting after a try, and the answer."""
    after = flip(setting, sluice)
    return (after, True) if runs(season, after) else (setting, False)


def told_apart(season, settings):
    """All pairs of the running settings that some tries tell apart, with the least number of tries."""
    size = len(season.valley)
    steps = {setting: [plain_try(season, setting, sluice) for sluice in range(size)] for setting in settings}
    found, number = {}, 1
    while True:
        new = [(one, two) for one in settings for two in settings if (one, two) not in found
               and any(steps[one][at][1] != steps[two][at][1] or (steps[one][at][0], steps[two][at][0]) in found
                       for at in range(size))]
        if not new:
            return found
        found.update((pair, number) for pair in new)
        number += 1
