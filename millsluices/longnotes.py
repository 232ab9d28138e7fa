"""Notes of histories and of plans."""

from millsluices.errors import BadNote
from millsluices.helpers import distinct
from millsluices.plans import Plan
from millsluices.walknotes import format_setting, format_turns, number_in, numbers_in, setting_in, turns_in

NOTHING = "-"


def written_setting(setting):
    """Return the note of the setting as it stands in a longer note."""
    return NOTHING if len(setting) == 0 else format_setting(setting)


def read_setting(word, size):
    """Return the setting of so many sluices that the word of a longer note writes, or None."""
    if size == 0:
        return () if word == NOTHING else None
    return setting_in(word, size)


def format_history(history):
    """Return the note of the history."""
    first, nights = history
    return "\n".join([written_setting(first), *[format_turns(turns) for turns in nights]])


def parse_history(valley, text):
    """Return the history that the note writes."""
    lines = text.split("\n")
    size = len(valley)
    rows = [read_setting(lines[0], size), *[turns_in(line, size) for line in lines[1:]]]
    if None in rows:
        raise BadNote(rows.index(None))
    return rows[0], tuple(rows[1:])


def written_jams(jams):
    """Return the word for the jams."""
    return NOTHING if len(jams) == 0 else ",".join([str(sluice) for sluice in jams])


def read_jams(word, size):
    """Return the ascending jams of so many sluices that the word writes, or None."""
    if word == NOTHING:
        return ()
    jams = numbers_in(word.split(","), size)
    return jams if jams is not None and jams == distinct(jams) else None


def read_row(line, size):
    """Return the row of a plan that the line writes, or None."""
    words = line.split(" ")
    if len(words) != 3:
        return None
    row = (read_setting(words[0], size), read_jams(words[1], size), number_in(words[2], size))
    return None if None in row else row


def format_plan(plan):
    """Return the note of the plan."""
    rows = [f"{written_setting(setting)} {written_jams(known)} {sluice}" for setting, known, sluice in plan.rows]
    return "\n".join(rows)


def parse_plan(valley, text):
    """Return the plan that the note writes."""
    if text == "":
        return Plan(())
    rows = [read_row(line, len(valley)) for line in text.split("\n")]
    if None in rows:
        raise BadNote(rows.index(None))
    return Plan(rows)
