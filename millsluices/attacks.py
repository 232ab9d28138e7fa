"""Attacks: jams, one by one, after which a wish cannot be met."""

from millsluices.evenings import JamGame, larger
from millsluices.fits import checked_start


def next_jam(game, mornings, jam, evening):
    """Return the first sluice whose jam is followed by a morning that does not withstand; there is one."""
    lost = [sluice for sluice in game.next_jams(jam) if not game.field.has(mornings[larger(jam, sluice)], evening)]
    return lost[0]


def attack_table(season, wishes, setting, *, most):
    """Return an attack table of the setting, or None if there is none."""
    start = checked_start(season, wishes, setting)
    game = JamGame(season, wishes, most)
    field = game.field
    mornings = game.withstanding()
    if field.has(mornings[()], start):
        return None
    done = {known: 0 for known in mornings}
    rows = []
    stack = [((), start)]
    while stack:
        jam, morning = stack.pop()
        if field.has(game.outlook.surviving(jam) & ~done[jam], morning):
            evenings = game.outlook.walked(field.alone(morning), jam)
            done[jam] = done[jam] | evenings
            for evening in field.listed(evenings):
                sluice = next_jam(game, mornings, jam, evening)
                rows.append((jam, evening, sluice))
                stack.append((larger(jam, sluice), evening))
    return tuple(sorted(rows))


def attacks_by_jam(rows):
    """Return a dict with the pairs of evenings and sluices for each jam, the larger jams first."""
    ordered = sorted([(len(row[0]), tuple(row[0]), tuple(row[1]), row[2]) for row in rows], reverse=True)
    found = {}
    for _, jam, evening, sluice in ordered:
        found.setdefault(jam, []).append((evening, sluice))
    return found


def is_attack_table(season, wishes, setting, rows, *, most):
    """Tell whether the rows are an attack table of the setting."""
    start = checked_start(season, wishes, setting)
    game = JamGame(season, wishes, most)
    outlook = game.outlook
    # For each jam the crowd of the mornings that are not lost; without rows they are those that survive it.
    kept = {}
    for jam, attacks in attacks_by_jam(rows).items():
        choice = game.next_jams(jam)
        attacked = 0
        for evening, sluice in attacks:
            if sluice in choice:
                after = larger(jam, sluice)
                safe = kept[after] if after in kept else outlook.surviving(after)
                attacked = attacked | (game.field.alone(evening) & ~safe)
        kept[jam] = outlook.surviving(jam) & outlook.walked(outlook.ground & ~attacked, jam)
    return not game.field.has(kept[()] if () in kept else outlook.surviving(()), start)
