"""Told sums: told lots, some times over, and the tables that they add up to."""

from toldamounts.formsums import numbers_by_lot, ordered_lots
from toldamounts.namedsums import are_named_terms
from toldamounts.toldlots import is_told_name, table_told


def is_told_sum(n, thing):
    """Whether any value is a told sum of three or four things."""
    return are_named_terms(n, thing, is_told_name)


def numbers_told(n, told):
    """The numbers of a told sum's table, as a dict by lots."""
    numbers = {lot: 0 for lot in ordered_lots(n)}
    for name, k in told:
        part = numbers_by_lot(table_told(n, name))
        numbers = {lot: number + k * part[lot] for lot, number in numbers.items()}
    return numbers
