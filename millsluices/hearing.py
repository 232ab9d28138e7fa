"""Hearing: how many sluices feed a mill can be heard, and may tell whether a claim is right."""

from millsluices.helpers import subsets
from millsluices.possible import possible
from millsluices.seasons import check_valleys
from millsluices.settings import fed


def heard(watch, day, claim):
    """Return for each setting that is possible what is heard of each mill, and whether it runs in the claim."""
    check_valleys(watch.rule, claim)
    return [(setting, fed(claim.valley, setting), setting in claim) for setting in possible(watch, day)]


def told_apart(sounds, lot):
    """Return the first two settings that sound alike in the lot, the one in the claim, the other not; or None."""
    breaking = {}
    for setting, counts, kept in sounds:
        if not kept:
            breaking.setdefault(tuple([counts[mill] for mill in lot]), setting)
    for setting, counts, kept in sounds:
        sound = tuple([counts[mill] for mill in lot])
        if kept and sound in breaking:
            return setting, breaking[sound]
    return None


def tells(watch, day, lot, claim):
    """Tell whether what is heard of the lot tells whether the claim is right."""
    return told_apart(heard(watch, day, claim), lot) is None


def blind_pair(watch, day, lot, claim):
    """Return two settings that sound alike in the lot, the first in the claim, the second not; or None."""
    return told_apart(heard(watch, day, claim), lot)


def fewest_heard(watch, day, claim):
    """Return the first lot, in the order by size, that tells whether the claim is right, or None."""
    sounds = heard(watch, day, claim)
    mills = tuple(range(claim.valley.mills))
    for lot in subsets(mills):
        if told_apart(sounds, lot) is None:
            return lot
    return None
