"""Whole numbers of any size in decimal digits."""

# Python puts a number of several thousand digits into no text at once, and reads none; pieces of 60 it always takes.
PIECE = 60


def numeral(number):
    """Return the decimal digits of the number, which is not below 0."""
    base = 10 ** 60
    left = number
    pieces = []
    while left >= base:
        left, piece = divmod(left, base)
        pieces.append(str(piece).zfill(PIECE))
    return "".join([str(left), *pieces[::-1]])


def worth(digits):
    """Return the number that the decimal digits, at least one, write."""
    base = 10 ** 60
    # The first piece is the short one, so that each later piece counts the same.
    first = len(digits) % PIECE
    number = int("0" + digits[:first])
    for at in range(first, len(digits), PIECE):
        number = number * base + int(digits[at:at + PIECE])
    return number
