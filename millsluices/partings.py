"""Partings: walks by which two habits differ."""

from millsluices.fields import running_settings
from millsluices.harms import traced_turns
from millsluices.helpers import distinct
from millsluices.settings import turned
from millsluices.walks import as_running


def parting_row(season, setting, one, two):
    """Return the shortest and first walk that exactly one of the habits lets, or None."""
    start = (as_running(season, setting), 0, 0)
    allowed = running_settings(season)
    came = {start: None}
    queue = [start]
    at = 0
    while at < len(queue):
        place = queue[at]
        present, first, second = place
        for sluice in distinct([pair[0] for pair in [*one.leaving(first), *two.leaving(second)]]):
            after = (turned(present, (sluice,)), one.after(first, sluice), two.after(second, sluice))
            if after[0] in allowed:
                if after[1] is None or after[2] is None:
                    return (*traced_turns(came, place), sluice)
                if after not in came:
                    came[after] = (place, sluice)
                    queue.append(after)
        at += 1
    return None
