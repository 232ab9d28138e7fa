"""What several files need: whole numbers, sets of numbers, arcs and paths."""


def is_whole(value):
    """Tell whether the value is a whole number; True and False are none."""
    return isinstance(value, int) and not isinstance(value, bool)


def is_count(value):
    """Tell whether the value is a whole number from 0 upwards."""
    return is_whole(value) and value >= 0


def distinct(numbers):
    """Return the numbers ascending, each once."""
    return tuple(sorted(set(numbers)))


def subsets(numbers):
    """Yield all sets of the ascending numbers, in the order by size."""
    level = [()]
    while level:
        for chosen in level:
            yield chosen
        level = [(*row, number) for row in level for number in numbers if len(row) == 0 or number > row[-1]]


def has_part(numbers, parts):
    """Tell whether one of the parts has no number but those of the numbers."""
    return any([all([number in numbers for number in part]) for part in parts])


def with_spare(season, counts):
    """Return the mills that are fed by more sluices than they need."""
    return tuple([mill for mill, need in enumerate(season.needs) if counts[mill] > need])


def with_room(season, counts):
    """Return the mills that can bear one sluice more."""
    return tuple([mill for mill, limit in enumerate(season.limits) if limit is None or counts[mill] < limit])


def arcs(valley, setting, sluices):
    """Return for each of the sluices the mill that it does not feed, the mill that it feeds, and itself."""
    found = []
    for sluice in sluices:
        pair = valley.sluices[sluice]
        side = setting[sluice]
        found.append((pair[1 - side], pair[side], sluice))
    return found


def backward(links):
    """Return the arcs in the opposite direction."""
    return [(head, tail, sluice) for tail, head, sluice in links]


def entries(links, starts):
    """Search from the starts, near mills first; return the arc by which each mill was entered."""
    leaving = {}
    for link in links:
        leaving.setdefault(link[0], []).append(link)
    entered = {mill: None for mill in starts}
    queue = list(entered)
    at = 0
    while at < len(queue):
        for link in leaving.get(queue[at], ()):
            if link[1] not in entered:
                entered[link[1]] = link
                queue.append(link[1])
        at += 1
    return entered


def reached(links, starts):
    """Return the lot of the mills to which paths lead from the starts."""
    return tuple(sorted(list(entries(links, starts))))


def path(links, starts, ends):
    """Return the sluices of a shortest path from one of the starts to one of the ends, or None."""
    entered = entries(links, starts)
    for mill in entered:
        if mill in ends:
            return traced(entered, mill)
    return None


def traced(entered, end):
    """Return the sluices of the path by which the search came to the end."""
    way = []
    link = entered[end]
    while link is not None:
        way.append(link[2])
        link = entered[link[0]]
    return tuple(way[::-1])
