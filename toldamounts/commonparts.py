"""The common part of two lots: what both of them tell."""

from toldamounts.kinds import are_integers_in, is_tuple_of
from toldamounts.logsums import spread_of
from toldamounts.views import counts_shown, shown
from toldamounts.worlds import MOST_SHOWN, require_lots, tally

EQUAL = ("equal",)


def blocks_in(rows, one, other):
    """The blocks of what two lots show, ascending."""
    blocks = []
    for outcome, _ in rows:
        a = shown(outcome, one)
        b = shown(outcome, other)
        linked = [block for block in blocks if a in block[0] or b in block[1]]
        firsts = [a]
        seconds = [b]
        for block in linked:
            firsts.extend(block[0])
            seconds.extend(block[1])
        blocks = [block for block in blocks if block not in linked]
        blocks.append((tuple(sorted(set(firsts))), tuple(sorted(set(seconds)))))
    return tuple(sorted(blocks))


def count_of_block(rows, one, block):
    """The sum of the counts of the rows of a block, one being the first lot."""
    return sum([count for outcome, count in rows if shown(outcome, one) in block[0]])


def unequal_in(rows, one, other):
    """All pairs of what two lots show, of one block, that are not shown as often as if they were apart in it."""
    both = tally(rows, [one, other])
    first = counts_shown(rows, one)
    second = counts_shown(rows, other)
    found = []
    for block in blocks_in(rows, one, other):
        total = count_of_block(rows, one, block)
        for a in block[0]:
            found.extend([(a, b) for b in block[1] if both.get((a, b), 0) * total != first[a] * second[b]])
    return found


def blocks_of(world, one, other):
    """The ascending tuple of the blocks of two lots."""
    require_lots(world, [one, other])
    return blocks_in(world[1], one, other)


def common_amount(world, one, other):
    """The amount of the common part of two lots."""
    require_lots(world, [one, other])
    rows = world[1]
    return spread_of([count_of_block(rows, one, block) for block in blocks_in(rows, one, other)])


def judge_common(world, one, other):
    """A certificate of whether the common part of two lots has the amount that they share."""
    require_lots(world, [one, other])
    found = unequal_in(world[1], one, other)
    return EQUAL if found == [] else ("unequal",) + found[0]


def common_holds(world, one, other, thing):
    """Whether any value is a certificate of whether the common part has the amount that two lots share."""
    require_lots(world, [one, other])
    found = unequal_in(world[1], one, other)
    if thing == EQUAL:
        return found == []
    if not is_tuple_of(thing, 3) or thing[0] != "unequal":
        return False
    return all([are_integers_in(seen, 0, MOST_SHOWN) for seen in thing[1:]]) and thing[1:] in found
