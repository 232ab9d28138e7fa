"""Groping: plans that find out in the dark which setting is the present one."""

from millsluices.errors import EndlessPlan
from millsluices.fields import Field, running_settings
from millsluices.helpers import distinct, subsets
from millsluices.settings import turned
from millsluices.telling import alike_numbers
from millsluices.walks import as_running


def checked_candidates(season, candidates):
    """Return the candidates in order, each once; raise an error for the first that does not run."""
    return distinct([as_running(season, setting) for setting in candidates])


def after_try(allowed, candidates, sluice, answer):
    """Return the candidates that remain after a try with this answer."""
    if answer:
        return tuple(sorted([turned(setting, (sluice,)) for setting in candidates
                             if turned(setting, (sluice,)) in allowed]))
    return tuple([setting for setting in candidates if turned(setting, (sluice,)) not in allowed])


def remaining(season, candidates, tries, answers):
    """Return the candidates that remain after the tries with these answers."""
    present = checked_candidates(season, candidates)
    allowed = running_settings(season)
    for sluice, answer in zip(tries, answers):
        present = after_try(allowed, present, sluice, answer)
    return present


def chosen_sluices(plan):
    """Return a dict with the sluice of the first row of the plan for each of its lots of candidates."""
    chosen = {}
    for row in plan:
        chosen.setdefault(tuple([tuple(setting) for setting in row[0]]), row[1])
    return chosen


def groped(allowed, chosen, candidates, setting):
    """Return the tries with their answers, and the candidates at the end; None if the plan never ends."""
    present = candidates
    hidden = setting
    tries = []
    passed = {}
    while present in chosen:
        if (present, hidden) in passed:
            return None
        passed[(present, hidden)] = True
        sluice = chosen[present]
        after = turned(hidden, (sluice,))
        answer = after in allowed
        tries.append((sluice, answer))
        present = after_try(allowed, present, sluice, answer)
        hidden = after if answer else hidden
    return tuple(tries), present


def follow_groping(season, plan, candidates, setting):
    """Return the tries of the plan with their answers, and the candidates at the end."""
    start = checked_candidates(season, candidates)
    found = groped(running_settings(season), chosen_sluices(plan), start, tuple(setting))
    if found is None:
        raise EndlessPlan()
    return found


def is_groping_plan(season, candidates, plan):
    """Tell whether the plan finds out which of the candidates is the present setting."""
    start = checked_candidates(season, candidates)
    allowed = running_settings(season)
    chosen = chosen_sluices(plan)
    numbers = alike_numbers(season)
    for setting in start:
        found = groped(allowed, chosen, start, setting)
        if found is None or not are_alike(numbers, found[1]):
            return False
    return True


def are_alike(numbers, candidates):
    """Tell whether all candidates are alike."""
    return len(distinct([numbers[setting] for setting in candidates])) < 2


class Search:
    """The tries that are needed to find out which candidate is the present setting.

    Candidates that remain have given the same answers, so the same sluices were turned for all of them. After some
    tries all that counts is the part of the candidates that remains, by their places, and which sluices are turned:
    a tuple with side 1 for each of these. The crowds here are crowds of such tuples instead of settings.
    """

    def __init__(self, season, candidates):
        self.candidates = candidates
        self.field = Field(season.valley)
        self.ground = self.field.runners(season)
        self.moving = [[self.moved(setting, sluice) for sluice in range(self.field.size)] for setting in candidates]
        self.splits = {}
        self.left = {}
        numbers = alike_numbers(season)
        places = tuple(range(len(candidates)))
        self.places = places
        # Smaller parts come first, and the part without candidates is told.
        for part in subsets(places):
            told = are_alike(numbers, [candidates[place] for place in part])
            self.splits[part] = [] if told else self.all_splits(part)
            self.left[part] = [self.field.whole if told else 0]
            self.fill(part)

    def moved(self, setting, sluice):
        """Return the crowd of the turned sluices after which a try of the sluice moves it, from the candidate on."""
        crowd = self.field.swapped(self.ground, sluice)
        for number, side in enumerate(setting):
            crowd = self.field.swapped(crowd, number) if side == 1 else crowd
        return crowd

    def all_splits(self, part):
        """Return rows of a sluice, the candidates that it moves for, the others, and the crowd for which it is so."""
        found = []
        for sluice in range(self.field.size):
            rows = [((), (), self.field.whole)]
            for place in part:
                crowd = self.moving[place][sluice]
                moving = [((*mobile, place), still, old & crowd) for mobile, still, old in rows]
                resting = [(mobile, (*still, place), old & ~crowd) for mobile, still, old in rows]
                rows = [row for row in [*moving, *resting] if row[2] != 0]
            found.extend([(sluice, *row) for row in rows if len(row[0]) > 0])
        return found

    def within(self, part, tries):
        """Return the crowd for which at most so many tries are left to the part."""
        crowds = self.left[part]
        return crowds[min(tries, len(crowds) - 1)]

    def after(self, split, tries):
        """Return the crowd for which the split leaves at most so many tries."""
        sluice, mobile, still, crowd = split
        return crowd & self.field.swapped(self.within(mobile, tries), sluice) & self.within(still, tries)

    def fill(self, part):
        """Find the crowds for which at most 0, 1, 2 .. tries are left to the part."""
        crowds = self.left[part]
        deepest = max([len(self.left[smaller]) for split in self.splits[part] for smaller in split[1:3]], default=0)
        more = self.reach(part)
        while more != crowds[-1] or len(crowds) < deepest:
            crowds.append(more)
            more = self.reach(part)

    def reach(self, part):
        """Return the crowd for which at most one try more is left to the part than for the last of its crowds."""
        crowds = self.left[part]
        found = crowds[-1]
        for split in self.splits[part]:
            found = found | self.after(split, len(crowds) - 1)
        return found

    def tries(self, part, moves):
        """Return the least number of tries that are left to the part after these sluices were turned."""
        return min([number for number, crowd in enumerate(self.left[part]) if self.field.has(crowd, moves)])

    def best(self, part, moves):
        """Return the first split that leaves as few tries as possible, or None if no try is left."""
        rest = self.tries(part, moves) - 1
        if rest < 0:
            return None
        good = [split for split in self.splits[part] if self.field.has(self.after(split, rest), moves)]
        return good[0]

    def present(self, part, moves):
        """Return the candidates that remain, as they are after these sluices were turned."""
        turns = [sluice for sluice, side in enumerate(moves) if side == 1]
        return tuple(sorted([turned(self.candidates[place], turns) for place in part]))


def fewest_tries(season, candidates):
    """Return the least number of tries with which a plan finds out which of the candidates is the present setting."""
    search = Search(season, checked_candidates(season, candidates))
    return search.tries(search.places, (0,) * len(season.valley))


def groping_plan(season, candidates):
    """Return a plan that finds out, with as few tries as possible, which of the candidates is the present setting."""
    search = Search(season, checked_candidates(season, candidates))
    rows = {}
    stack = [(search.places, (0,) * len(season.valley))]
    while stack:
        part, moves = stack.pop()
        split = search.best(part, moves)
        if split is not None:
            sluice, mobile, still, _ = split
            rows.setdefault(search.present(part, moves), sluice)
            stack.append((mobile, turned(moves, (sluice,))))
            stack.append((still, moves))
    return tuple(rows.items())
