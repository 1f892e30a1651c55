"""Worlds: rows with counts, what lots of things show in them, tell and share."""

from toldamounts.errors import BadLot, BadWorld
from toldamounts.kinds import are_integers_in, is_ascending, is_integer_in, is_lot, is_tuple_of
from toldamounts.views import amount_given, amount_in, amount_shared, counts_shown, shown

MOST_THINGS = 6
MOST_ROWS = 40
MOST_SHOWN = 999
MOST_COUNT = 99
MOST_TOTAL = 999

TELLS = ("tells",)
APART = ("apart",)


def is_row(n, thing):
    """Whether any value is a row of a world of n things."""
    if not is_tuple_of(thing, 2) or not is_tuple_of(thing[0], n):
        return False
    return are_integers_in(thing[0], 0, MOST_SHOWN) and is_integer_in(thing[1], 1, MOST_COUNT)


def is_world(thing):
    """Whether any value is a world."""
    if not is_tuple_of(thing, 2):
        return False
    n, rows = thing
    if not is_integer_in(n, 1, MOST_THINGS) or not isinstance(rows, tuple):
        return False
    if not 1 <= len(rows) <= MOST_ROWS or not all([is_row(n, row) for row in rows]):
        return False
    return is_ascending([row[0] for row in rows]) and sum([row[1] for row in rows]) <= MOST_TOTAL


def require_world(thing):
    """Raises BadWorld with a value that is no world."""
    if not is_world(thing):
        raise BadWorld(thing)


def require_lots(world, lots):
    """Raises BadWorld with a value that is no world, then BadLot with the first value that is no lot of it."""
    require_world(world)
    for lot in lots:
        if not is_lot(world[0], lot):
            raise BadLot(lot)


def view_of(world, lot):
    """The view of a lot: what it shows, ascending, with the sums of the counts."""
    require_lots(world, [lot])
    counts = counts_shown(world[1], lot)
    return tuple(sorted(counts.items()))


def lot_amount(world, lot):
    """The amount of a lot."""
    require_lots(world, [lot])
    return amount_in(world, lot)


def given_amount(world, lot, given):
    """The amount of a lot, given another one."""
    require_lots(world, [lot, given])
    return amount_given(world, lot, given)


def shared_amount(world, one, other, given):
    """What two lots share, given a third one."""
    require_lots(world, [one, other, given])
    return amount_shared(world, one, other, given)


def judge_tells(world, one, other):
    """A certificate of whether one lot tells the other one."""
    require_lots(world, [one, other])
    rows = world[1]
    firsts = {}
    for at, row in enumerate(rows):
        first = firsts.setdefault(shown(row[0], one), at)
        if shown(rows[first][0], other) != shown(row[0], other):
            return ("unlike", first, at)
    return TELLS


def tells_holds(world, one, other, thing):
    """Whether any value is a certificate of whether one lot tells the other one."""
    found = judge_tells(world, one, other)
    if thing == TELLS:
        return found == TELLS
    return is_unlike(world[1], one, other, thing)


def is_unlike(rows, one, other, thing):
    """Whether any value tells two rows in which one lot shows the same and the other one does not."""
    if not is_tuple_of(thing, 3) or thing[0] != "unlike":
        return False
    if not are_integers_in(thing[1:], 0, len(rows) - 1) or thing[1] >= thing[2]:
        return False
    first = rows[thing[1]][0]
    second = rows[thing[2]][0]
    return shown(first, one) == shown(second, one) and shown(first, other) != shown(second, other)


def judge_apart(world, one, other, given):
    """A certificate of whether two lots are apart, given a third one."""
    require_lots(world, [one, other, given])
    tallies = tallies_of(world[1], one, other, given)
    # If a and c, or b and c, are never shown together, both products are 0.
    for a, c in tallies[1]:
        for b, beside_b in tallies[2]:
            if c == beside_b and is_unequal(tallies, a, b, c):
                return ("unequal", a, b, c)
    return APART


def apart_holds(world, one, other, given, thing):
    """Whether any value is a certificate of whether two lots are apart, given a third one."""
    found = judge_apart(world, one, other, given)
    if thing == APART:
        return found == APART
    if not is_tuple_of(thing, 4) or thing[0] != "unequal":
        return False
    for lot, seen in zip([one, other, given], thing[1:]):
        if not are_integers_in(seen, 0, MOST_SHOWN) or seen not in counts_shown(world[1], lot):
            return False
    return is_unequal(tallies_of(world[1], one, other, given), thing[1], thing[2], thing[3])


def tallies_of(rows, one, other, given):
    """The tallies of all three lots, of one and given, of other and given, and of given alone."""
    three = tally(rows, [one, other, given])
    return three, tally(rows, [one, given]), tally(rows, [other, given]), tally(rows, [given])


def tally(rows, lots):
    """The sum of the counts for each tuple of what the lots show at once, as a dict."""
    counts = {}
    for outcome, count in rows:
        seen = tuple([shown(outcome, lot) for lot in lots])
        counts[seen] = counts.get(seen, 0) + count
    return counts


def is_unequal(tallies, a, b, c):
    """Whether the two products for what three lots show are unequal."""
    three, first, second, alone = tallies
    return three.get((a, b, c), 0) * alone[(c,)] != first.get((a, c), 0) * second.get((b, c), 0)
