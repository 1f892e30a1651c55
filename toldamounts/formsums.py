"""Sums of forms that are known to be right, and so are not looked at again."""

from itertools import combinations


def lots_within(things):
    """All lots of some ascending things, () too."""
    lots = []
    for size in range(len(things) + 1):
        for lot in combinations(things, size):
            lots.append(lot)
    return lots


def ordered_lots(n):
    """The lots in order of n things."""
    return tuple(sorted(lots_within(list(range(n)))))[1:]


def form_from(n, factors):
    """The form of n things with the factors that are not 0, for the lots other than (), in a dict."""
    terms = [(lot, factor) for lot, factor in factors.items() if factor != 0 and lot != ()]
    return n, tuple(sorted(terms))


def added(n, pairs):
    """The form of n things that is the sum of k times form over all pairs (k, form)."""
    factors = {}
    for k, form in pairs:
        for lot, factor in form[1]:
            factors[lot] = factors.get(lot, 0) + k * factor
    return form_from(n, factors)


def lots_added(n, pairs):
    """The form of n things that is the sum of lots with factors over all pairs (lot, factor)."""
    return added(n, [(factor, (n, ((lot, 1),))) for lot, factor in pairs])


def column_of(form):
    """The factors of a form, for all lots in order, as a list."""
    factors = dict(form[1])
    return [factors.get(lot, 0) for lot in ordered_lots(form[0])]


def value_by_lot(form, numbers):
    """The value of a form at a dict of the numbers of lots."""
    return sum([factor * numbers[lot] for lot, factor in form[1]])


def numbers_by_lot(table):
    """The numbers of a table as a dict by lots."""
    return {lot: number for lot, number in zip(ordered_lots(table[0]), table[1])}
