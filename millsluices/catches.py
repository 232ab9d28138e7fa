"""Catches: sluices that are tried in the dark."""

from millsluices.settings import turned
from millsluices.walks import as_running


def tried(season, setting, tries):
    """Return the setting after all tries, and the answers."""
    present = as_running(season, setting)
    answers = []
    for sluice in tries:
        after = turned(present, (sluice,))
        answers.append(after in season)
        present = after if answers[-1] else present
    return present, tuple(answers)
