"""Notes of settings and of turns."""

from millsluices.errors import BadNote
from millsluices.numerals import worth

DIGITS = "0123456789"
SIDES = "01"


def number_in(word, end):
    """Return the number that the word writes, or None if it writes none from 0 below the end.

    If `end` is None, then the number may have any size.
    """
    if len(word) == 0 or not all([letter in DIGITS for letter in word]) or (word[0] == "0" and word != "0"):
        return None
    number = worth(word)
    return number if end is None or number < end else None


def numbers_in(words, end):
    """Return the numbers that the words write, or None if a word writes none from 0 below the end."""
    numbers = tuple([number_in(word, end) for word in words])
    return None if None in numbers else numbers


def setting_in(line, size):
    """Return the setting of so many sluices that the line writes, or None."""
    good = len(line) == size and all([letter in SIDES for letter in line])
    return tuple([int(letter) for letter in line]) if good else None


def turns_in(line, size):
    """Return the turns of so many sluices that the line writes, or None."""
    return () if line == "" else numbers_in(line.split(" "), size)


def alone_in(lines, found):
    """Return what was found in the first line; raise an error if nothing was found or if there are more lines."""
    if found is None:
        raise BadNote(0)
    if len(lines) > 1:
        raise BadNote(1)
    return found


def format_setting(setting):
    """Return the note of the setting."""
    return "".join([str(side) for side in setting])


def parse_setting(valley, text):
    """Return the setting that the note writes."""
    lines = text.split("\n")
    return alone_in(lines, setting_in(lines[0], len(valley)))


def format_turns(turns):
    """Return the note of the turns."""
    return " ".join([str(sluice) for sluice in turns])


def parse_turns(valley, text):
    """Return the turns that the note writes."""
    lines = text.split("\n")
    return alone_in(lines, turns_in(lines[0], len(valley)))
