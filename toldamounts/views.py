"""What lots show in worlds that are known to be right, and so are not looked at again."""

from toldamounts.logsums import combined, spread_of


def joined(one, other):
    """The lot of all things that are in one lot or in the other one."""
    return tuple(sorted(set(one + other)))


def shown(outcome, lot):
    """What a lot shows in a row with this outcome."""
    return tuple([outcome[thing] for thing in lot])


def counts_shown(rows, lot):
    """The sum of the counts of the rows in which it is shown, for each that a lot shows, as a dict."""
    counts = {}
    for outcome, count in rows:
        seen = shown(outcome, lot)
        counts[seen] = counts.get(seen, 0) + count
    return counts


def amount_in(world, lot):
    """The amount of a lot."""
    counts = counts_shown(world[1], lot)
    return spread_of(list(counts.values()))


def amount_given(world, lot, given):
    """The amount of a lot, given another one."""
    both = amount_in(world, joined(lot, given))
    return combined([(1, both), (-1, amount_in(world, given))])


def amount_shared(world, one, other, given):
    """What two lots share, given a third one."""
    less = amount_given(world, one, joined(other, given))
    return combined([(1, amount_given(world, one, given)), (-1, less)])
