"""Systems: rows of figures for four things, by remainders by a prime, and the ranks of lots of things."""

from toldamounts.errors import BadLot, BadPrime, BadSystem, OtherSize
from toldamounts.formsums import ordered_lots
from toldamounts.kinds import are_integers_in, is_integer, is_integer_in, is_lot, is_tuple_of

PRIMES = (2, 3, 5, 7)
THINGS = 4
MOST_FIGURES = 8
MOST_ROWS = 8


def is_told_prime(thing):
    """Whether any value is one of the primes that a system may have."""
    return is_integer(thing) and thing in PRIMES


def require_prime(thing):
    """Raises BadPrime with a value that is none of the primes that a system may have."""
    if not is_told_prime(thing):
        raise BadPrime(thing)


def are_rows(p, d, thing):
    """Whether any value is a tuple of at most 8 rows of d figures below p."""
    if not isinstance(thing, tuple) or len(thing) > MOST_ROWS:
        return False
    return all([is_tuple_of(row, d) and are_integers_in(row, 0, p - 1) for row in thing])


def is_system(thing):
    """Whether any value is a system."""
    if not is_tuple_of(thing, 3) or not is_told_prime(thing[0]) or not is_integer_in(thing[1], 1, MOST_FIGURES):
        return False
    p, d, tables = thing
    return is_tuple_of(tables, THINGS) and all([are_rows(p, d, rows) for rows in tables])


def require_system(thing):
    """Raises BadSystem with a value that is no system."""
    if not is_system(thing):
        raise BadSystem(thing)


def first_figure(row):
    """The position of the first figure of a row that is not 0, or -1."""
    for column, figure in enumerate(row):
        if figure != 0:
            return column
    return -1


def rank_of_rows(p, rows):
    """The greatest number of rows of a list none of which is a sum of multiples of the others."""
    rank = 0
    while rows != []:
        lead = rows[0]
        rows = rows[1:]
        column = first_figure(lead)
        if column >= 0:
            rank += 1
            rows = [cleared(p, row, lead, column) for row in rows]
    return rank


def cleared(p, row, lead, column):
    """A multiple of a row, less that multiple of the leading row which makes the figure at a column 0."""
    return tuple([(figure * lead[column] - row[column] * part) % p for figure, part in zip(row, lead)])


def rank_in(system, lot):
    """The rank of a lot of things, for arguments that are known to be right."""
    rows = []
    for thing in lot:
        rows.extend(system[2][thing])
    return rank_of_rows(system[0], rows)


def ranks_in(system):
    """The table of the ranks of all lots, for a system that is known to be right."""
    return THINGS, tuple([rank_in(system, lot) for lot in ordered_lots(THINGS)])


def rank_of(system, lot):
    """The rank of a lot of the four things."""
    require_system(system)
    if not is_lot(THINGS, lot):
        raise BadLot(lot)
    return rank_in(system, lot)


def ranks_of(system):
    """The table of the ranks of all lots in order."""
    require_system(system)
    return ranks_in(system)


def beside_systems(one, other):
    """The system that has the figures of the first one ahead of those of the second one."""
    require_system(one)
    require_system(other)
    p, d, tables = one
    e = other[1]
    if other[0] != p or d + e > MOST_FIGURES:
        raise OtherSize(other)
    both = []
    for rows, more in zip(tables, other[2]):
        first = [row + (0,) * e for row in rows]
        second = [(0,) * d + row for row in more]
        both.append(tuple(first + second))
    return p, d + e, tuple(both)
