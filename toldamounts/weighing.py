"""Which multiples of told columns add up to a wanted column, by whole numbers alone.

This is the simplex method, with all numbers kept as integers over one scale, which is the last pivot
(so each division comes out even). It starts with one slack for each line, and works the slacks down
to 0. Taking always the first column that helps keeps it from going round (R. Bland 1977).
"""

from math import gcd


def weigh(columns, wanted):
    """A pair (m, weights): m above 0, and the sum of weight times column is m times the wanted column.

    No weight is below 0. If there are no such weights, a pair (0, numbers): the sum of number times
    item is not below 0 for any of the columns, but for the wanted one it is.
    """
    signs = [-1 if item < 0 else 1 for item in wanted]
    rows = first_rows(columns, wanted, signs)
    basis = [len(columns) + at for at in range(len(wanted))]
    scale = 1
    column = helping(rows[-1], len(columns))
    while column >= 0:
        at = leaving(rows, basis, column)
        pivot = rows[at][column]
        rows = pivoted(rows, at, column, scale)
        basis[at] = column
        scale = pivot
        column = helping(rows[-1], len(columns))
    if rows[-1][-1] == 0:
        return weights_from(rows, basis, scale, len(columns))
    slacks = rows[-1][len(columns):-1]
    return 0, lowest([-sign * (slack + scale) for sign, slack in zip(signs, slacks)])


def first_rows(columns, wanted, signs):
    """A row for each line: its items of all columns, its slack, and the wanted item, which is not below 0.

    The last row tells how much of the slacks' sum is worked off by one unit of each column.
    """
    rows = []
    for at, sign in enumerate(signs):
        slacks = [1 if at == line else 0 for line in range(len(signs))]
        rows.append([sign * column[at] for column in columns] + slacks + [sign * wanted[at]])
    gains = [sum([row[at] for row in rows]) for at in range(len(columns))]
    rows.append(gains + [0] * len(signs) + [sum([row[-1] for row in rows])])
    return rows


def helping(gains, many):
    """The first of many columns that works something off, or -1; -1 also if there is nothing left to do."""
    if gains[-1] > 0:
        for column in range(many):
            if gains[column] > 0:
                return column
    return -1


def leaving(rows, basis, column):
    """The row that bounds the column most closely; of equal ones, that of the first column in the basis."""
    best = -1
    for at in range(len(basis)):
        if rows[at][column] > 0 and (best < 0 or is_closer(rows, basis, column, at, best)):
            best = at
    return best


def is_closer(rows, basis, column, at, best):
    """Whether the row at a position bounds the column more closely than the best one so far."""
    here = rows[at][-1] * rows[best][column]
    there = rows[best][-1] * rows[at][column]
    return here < there or (here == there and basis[at] < basis[best])


def pivoted(rows, at, column, scale):
    """The rows when the column is worked out of all of them but the one at a position."""
    lead = rows[at]
    pivot = lead[column]
    result = []
    for place, row in enumerate(rows):
        factor = row[column]
        if place == at:
            result.append(row)
        else:
            result.append([(item * pivot - factor * part) // scale for item, part in zip(row, lead)])
    return result


def weights_from(rows, basis, scale, many):
    """The scale and the weights of the columns, made as low as they can be."""
    weights = [0] * many
    for at, column in enumerate(basis):
        if column < many:
            weights[column] = rows[at][-1]
    low = lowest([scale] + weights)
    return low[0], low[1:]


def lowest(numbers):
    """Integers, not all of them 0, divided by the greatest integer that divides them all."""
    divisor = 0
    for number in numbers:
        divisor = gcd(divisor, number)
    return [number // divisor for number in numbers]
