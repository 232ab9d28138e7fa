"""Verdicts: whether something is certain about a day."""

from millsluices.possible import Past
from millsluices.seasons import check_valleys


class Verdict:
    """A word about a claim, a history that keeps the claim, and one that breaks it."""

    def __init__(self, word, keeping, breaking):
        self.word = word
        self.keeping = keeping
        self.breaking = breaking


def chosen_word(keeping, breaking):
    """Return the word for a claim, by the histories that keep it and that break it."""
    if keeping is None:
        return "none" if breaking is None else "never"
    return "sure" if breaking is None else "open"


def verdict(watch, day, claim):
    """Return whether the setting on the day ran in the season of the claim."""
    check_valleys(watch.rule, claim)
    past = Past(watch)
    days = past.days()
    kept = days[day] & past.field.runners(claim)
    broken = days[day] ^ kept
    found = [None if crowd == 0 else past.history(days, day, past.field.first(crowd)) for crowd in (kept, broken)]
    return Verdict(chosen_word(found[0], found[1]), found[0], found[1])
