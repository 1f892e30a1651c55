"""Rows of noughts and ones, and the numbers that they show."""


def bit_rows(many):
    """All tuples of so many integers 0 and 1, ascending."""
    rows = [()]
    for _ in range(many):
        rows = [row + (bit,) for row in rows for bit in (0, 1)]
    return rows


def number_of_bits(bits):
    """The sum of 1, 2, 4, .. times the bits, from the first one on."""
    return sum([bit << at for at, bit in enumerate(bits)])
