"""Notes of seasons."""

from millsluices.errors import BadNote
from millsluices.numerals import numeral
from millsluices.seasons import Season
from millsluices.valleys import Valley
from millsluices.walknotes import number_in, numbers_in

MOST_MILLS = 24
MOST_SLUICES = 48


def written_sluice(pair, let):
    """Return the line of a sluice."""
    line = f"sluice {pair[0]} {pair[1]}"
    if len(let) == 2:
        return line
    return f"{line} side {let[0]}" if len(let) == 1 else f"{line} side none"


def format_season(season):
    """Return the note of the season."""
    return "\n".join([
        f"mills {season.valley.mills}",
        *[written_sluice(pair, let) for pair, let in zip(season.valley.sluices, season.sides)],
        *[f"need {mill} {numeral(need)}" for mill, need in enumerate(season.needs) if need > 0],
        *[f"limit {mill} {numeral(limit)}" for mill, limit in enumerate(season.limits) if limit is not None],
    ])


def read_mills(line):
    """Return the number of mills that the line writes, or None."""
    words = line.split(" ")
    if len(words) != 2 or words[0] != "mills" or words[1] == "0":
        return None
    return number_in(words[1], MOST_MILLS + 1)


def read_sides(words):
    """Return the sides that the words behind the mills of a sluice let, or None."""
    if len(words) == 0:
        return 0, 1
    if words[0] != "side" or len(words) != 2:
        return None
    if words[1] == "none":
        return ()
    side = number_in(words[1], 2)
    return None if side is None else (side,)


def read_sluice(line, mills):
    """Return the pair and the sides of the sluice that the line writes, or None."""
    words = line.split(" ")
    pair = numbers_in(words[1:3], mills)
    sides = read_sides(words[3:])
    if words[0] != "sluice" or pair is None or len(pair) < 2 or pair[0] == pair[1] or sides is None:
        return None
    return pair, sides


def read_bound(line, word, mills):
    """Return the mill and the need or limit that the line, which begins with the word, writes; or None."""
    words = line.split(" ")
    if len(words) != 3 or words[0] != word:
        return None
    mill = number_in(words[1], mills)
    number = number_in(words[2], None)
    return None if mill is None or number is None else (mill, number)


def read_sluices(lines, mills):
    """Return a list of the pairs and sides of the sluices that the first of the lines write."""
    found = []
    for line in lines[:MOST_SLUICES]:
        row = read_sluice(line, mills)
        if row is None:
            return found
        found.append(row)
    return found


def read_bounds(lines, word, mills, least):
    """Return a dict of the needs or limits, `least` or more, that the first of the lines write, ascending by mills."""
    found = {}
    last = -1
    for line in lines:
        row = read_bound(line, word, mills)
        if row is None or row[0] <= last or row[1] < least:
            return found
        last = row[0]
        found[last] = row[1]
    return found


def parse_season(text):
    """Return the season that the note writes."""
    lines = text.split("\n")
    mills = read_mills(lines[0])
    if mills is None:
        raise BadNote(0)
    # Each kind of lines ends where a line cannot be of this kind; what is left at the end cannot stand there.
    rows = read_sluices(lines[1:], mills)
    read = 1 + len(rows)
    needs = read_bounds(lines[read:], "need", mills, 1)
    read = read + len(needs)
    limits = read_bounds(lines[read:], "limit", mills, 0)
    read = read + len(limits)
    if read < len(lines):
        raise BadNote(read)
    valley = Valley(mills, [row[0] for row in rows])
    return Season(valley, needs=[needs.get(mill, 0) for mill in range(mills)],
                  limits=[limits.get(mill) for mill in range(mills)], sides=[row[1] for row in rows])
