"""Told lots, their tables and the named forms, worked out by hand: another way than the program's."""

import random
from fractions import Fraction

from tests.test_basics import basic_by_hand, names_by_hand
from tests.test_forms import all_lots

PAIRS = [(i, j) for i in range(4) for j in range(i + 1, 4)]
FOURS = [("four", i, j) for i, j in PAIRS]


def told_names_by_hand(n):
    """The told lots' names, in no order."""
    names = [("hit", lot) for lot in all_lots(n)]
    if n == 3:
        return names + [("three",)]
    names += [(kind, i) for kind in ("three", "wide", "plane") for i in range(4)]
    return names + [("double", i, j) for i, j in PAIRS] + [("corner",), ("planes",)]


def system_by_hand(name):
    """The number of figures, and the rows of the four things, as the document tells them."""
    rows = {thing: [] for thing in range(4)}
    rest = [thing for thing in range(4) if thing not in name[1:]]
    if name[0] == "hit":
        return 1, [[(1,)] if thing in name[1] else [] for thing in range(4)]
    if name[0] == "three":
        d, each, own = 2, [(1, 0), (0, 1), (1, 1)], []
    elif name[0] == "double":
        d, each, own = 2, [(1, 0), (0, 1)], [(1, 1)]
    elif name[0] == "wide":
        d, each, own = 2, [(1, 0), (0, 1), (1, 1)], [(1, 0), (0, 1)]
    elif name[0] == "corner":
        d, each, own = 3, [(1, 0, 0), (0, 1, 0), (0, 0, 1), (1, 1, 1)], []
    elif name[0] == "plane":
        d, each, own = 3, [(1, 0, 0), (0, 1, 0), (0, 0, 1)], [(1, 1, 0), (0, 1, 1)]
    else:
        return 4, [[(1, 0, 0, 0), (0, 1, 0, 0)], [(0, 0, 1, 0), (0, 0, 0, 1)],
                   [(1, 0, 1, 0), (0, 1, 0, 1)], [(1, 0, 0, 1), (0, 1, 1, 1)]]
    for thing, row in zip(rest, each):
        rows[thing] = [row]
    for thing in name[1:]:
        rows[thing] = own
    return d, [rows[thing] for thing in range(4)]


def rank_of_fractions(rows):
    """The rank of rows over the fractions."""
    left = [[Fraction(item) for item in row] for row in rows]
    rank = 0
    for column in range(len(rows[0]) if rows else 0):
        pivot = next((row for row in left if row[column]), None)
        if pivot is not None:
            rank += 1
            left = [[a - row[column] / pivot[column] * b for a, b in zip(row, pivot)] for row in left if row is not pivot]
    return rank


def numbers_by_hand(n, name):
    """The numbers of a told lot's table, lot by lot, as a dict."""
    if n == 4:
        _, rows = system_by_hand(name)
        return {lot: rank_of_fractions([row for thing in lot for row in rows[thing]]) for lot in all_lots(4)}
    if name == ("three",):
        return {lot: 1 if len(lot) == 1 else 2 for lot in all_lots(3)}
    return {lot: int(bool(set(lot) & set(name[1]))) for lot in all_lots(3)}


TABLES = {n: {name: numbers_by_hand(n, name) for name in told_names_by_hand(n)} for n in (3, 4)}


def shared_by_hand(one, other, given):
    """The pairs (lot, factor) of what two things share, given a lot, as told lots with possible ()."""
    both = set(given) | {one, other}
    told = [(set(given) | {one}, 1), (set(given) | {other}, 1), (both, -1), (set(given), -1)]
    return [(tuple(sorted(lot)), factor) for lot, factor in told]


def four_by_hand(i, j):
    """The factors of a form of four at once, lot by lot, as a dict."""
    k, other = [thing for thing in range(4) if thing not in (i, j)]
    told = shared_by_hand(i, j, (k,)) + shared_by_hand(i, j, (other,)) + shared_by_hand(k, other, ())
    told += [(lot, -factor) for lot, factor in shared_by_hand(i, j, ())]
    factors = {}
    for lot, factor in told:
        factors[lot] = factors.get(lot, 0) + factor
    return {lot: factor for lot, factor in factors.items() if factor and lot}


def named_by_hand(n, name):
    """The factors of the form that a name names, basic or four at once, as a dict."""
    return four_by_hand(name[1], name[2]) if name[0] == "four" else basic_by_hand(n, name)


def sum_names_by_hand(n):
    """The names that certificates for three or four things may have."""
    return names_by_hand(n) + (FOURS if n == 4 else [])


def total_by_hand(pairs):
    """The sum of factor times dict of factors over all pairs, with the factors that are not 0."""
    total = {}
    for k, factors in pairs:
        for lot, factor in factors.items():
            total[lot] = total.get(lot, 0) + k * factor
    return {lot: factor for lot, factor in total.items() if factor}


def form_by_hand(n, pairs):
    """The form that is the sum of factor times dict of factors over all pairs."""
    return n, tuple(sorted(total_by_hand(pairs).items()))


def value_by_hand(form, numbers):
    """The value of a form at a dict of numbers."""
    return sum(factor * numbers[lot] for lot, factor in form[1])


def told_sum_by_hand(n, told):
    """The numbers of a told sum's table, as a dict."""
    return {lot: sum(k * TABLES[n][name][lot] for name, k in told) for lot in all_lots(n)}


def is_named_list(thing, names):
    """Whether a tuple of pairs has names of a list, ascending, with integers above 0."""
    told = [name for name, _ in thing]
    return told == sorted(set(told)) and set(told) <= set(names) and all(k.__class__ is int and k > 0 for _, k in thing)


def some_named_sums(n, seed, many, most=5):
    """Forms that are sums of named forms, as what is told of spaces lets."""
    choose = random.Random(seed)
    found = []
    for _ in range(many):
        names = [name for name in sum_names_by_hand(n) if choose.random() < 0.35]
        found.append(form_by_hand(n, [(choose.randint(1, most), named_by_hand(n, name)) for name in names]))
    return found


def nearly(form):
    """A form with one factor changed by 1, for each lot and sign."""
    n = form[0]
    for lot in all_lots(n):
        for more in (-1, 1):
            yield form_by_hand(n, [(1, dict(form[1])), (more, {lot: 1})])
