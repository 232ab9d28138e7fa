"""Stops that are let: turns during which as few mills as possible are out at the same time."""

from millsluices.connections import connect
from millsluices.helpers import arcs, backward, path, with_room, with_spare
from millsluices.orders import level_patches, patch_mills, patches
from millsluices.settings import differing, fed, turned


def greatest_out(season, setting, turns):
    """Return the greatest number of mills that are out at the same time after one of the turns."""
    most = 0
    present = setting
    for sluice in turns:
        present = turned(present, (sluice,))
        most = max(most, len(season.out(present)))
    return most


def nearest(links, mills, ends):
    """Return the mill from which the shortest path leads to one of the ends, and the path; or None and None."""
    found = []
    for mill in mills:
        way = path(links, (mill,), ends)
        if way is not None:
            found.append((len(way), mill, way))
    if len(found) == 0:
        return None, None
    _, mill, way = min(found)
    return mill, way


def spare_way(season, setting, patch):
    """Return a mill that the patch touches and a shortest path to a mill with a spare; or None and None."""
    spare = with_spare(season, fed(season.valley, setting))
    return nearest(arcs(season.valley, setting, season.unset), patch_mills(season.valley, patch), spare)


def room_way(season, setting, patch):
    """Return a mill that the patch touches and, backwards, a shortest path from a mill with room; or None and None."""
    room = with_room(season, fed(season.valley, setting))
    return nearest(backward(arcs(season.valley, setting, season.unset)), patch_mills(season.valley, patch), room)


def outs_needed(season, one, two):
    """Return the least number of mills that must be out at the same time between the two settings."""
    if connect(season, one, two).joined:
        return 0
    start = tuple(one)
    for patch in level_patches(season.valley, start, differing(start, two)):
        if spare_way(season, start, patch)[0] is None and room_way(season, start, patch)[0] is None:
            return 2
    return 1


def circuit(links, start):
    """Return the sluices of a row of arcs that leads from the start back to it and has each of the links once.

    Links without a sluice are passed over. There is such a row.
    """
    leaving = {}
    for link in links:
        leaving.setdefault(link[0], []).append(link)
    stack = [(start, None)]
    found = []
    while stack:
        mill, sluice = stack[-1]
        rest = leaving.get(mill, [])
        if len(rest) > 0:
            _, head, number = rest.pop()
            stack.append((head, number))
        else:
            stack.pop()
            if sluice is not None:
                found.append(sluice)
    return tuple(found[::-1])


def level_turns(season, setting, patch):
    """Return turns that turn, in all, each sluice of the level patch once.

    An additional sluice is brought to the patch, handed on from mill to mill and taken back; or one is lacking at
    one mill after the other; or both.
    """
    links = arcs(season.valley, setting, patch)
    mill, way = spare_way(season, setting, patch)
    if mill is not None:
        return (*way[::-1], *circuit(backward(links), mill), *way)
    mill, way = room_way(season, setting, patch)
    if mill is not None:
        return (*way[::-1], *circuit(links, mill), *way)
    return circuit(links, links[0][0])


def uneven_turns(valley, setting, patch):
    """Return an order of the sluices of a patch that is not level, in which one mill at most has one too many.

    Each row begins at a mill that loses sluices in all, and ends at one that gains.
    """
    links = backward(arcs(valley, setting, patch))
    outside = valley.mills
    before = fed(valley, setting)
    after = fed(valley, turned(setting, patch))
    for mill in range(valley.mills):
        lost = before[mill] - after[mill]
        links.extend([(outside, mill, None)] * max(0, lost))
        links.extend([(mill, outside, None)] * max(0, -lost))
    return circuit(links, outside)


def strained_turns(season, one, two):
    """Return turns that lead from the one setting to the other with as few mills out at the same time as possible."""
    found = connect(season, one, two)
    if found.joined:
        return found.turns
    start = tuple(one)
    apart = differing(start, two)
    level = level_patches(season.valley, start, apart)
    turns = []
    # The level patches come first: they leave all mills with as many sluices as before.
    for patch in level:
        turns.extend(level_turns(season, turned(start, turns), patch))
    for patch in patches(season.valley, apart):
        if patch not in level:
            turns.extend(uneven_turns(season.valley, start, patch))
    return tuple(turns)
