"""Worlds from worlds: beside one another, grouped by lots, with other names."""

from toldamounts.errors import BadLots, BadRenaming, OtherSize
from toldamounts.kinds import is_lot, is_renaming
from toldamounts.views import counts_shown, shown
from toldamounts.worlds import require_world

MOST_LOTS = 6


def beside(one, other):
    """The world in which two worlds of as many things are drawn at once."""
    require_world(one)
    require_world(other)
    n = one[0]
    if other[0] != n:
        raise OtherSize(other)
    sizes = [1 + max([outcome[thing] for outcome, _ in other[1]]) for thing in range(n)]
    rows = []
    for outcome, count in one[1]:
        for second, second_count in other[1]:
            numbers = [x * size + y for x, size, y in zip(outcome, sizes, second)]
            rows.append((tuple(numbers), count * second_count))
    return n, tuple(sorted(rows))


def are_lots(n, thing):
    """Whether any value is a tuple of 1 to 6 lots of n things."""
    if not isinstance(thing, tuple) or not 1 <= len(thing) <= MOST_LOTS:
        return False
    return all([is_lot(n, lot) for lot in thing])


def grouped(world, lots):
    """The world that has a thing for each of the lots."""
    require_world(world)
    if not are_lots(world[0], lots):
        raise BadLots(lots)
    positions = [positions_in_view(world[1], lot) for lot in lots]
    counts = {}
    for outcome, count in world[1]:
        group = tuple([places[shown(outcome, lot)] for lot, places in zip(lots, positions)])
        counts[group] = counts.get(group, 0) + count
    return len(lots), tuple(sorted(counts.items()))


def positions_in_view(rows, lot):
    """The position in the lot's view of each that the lot shows, as a dict."""
    return {seen: at for at, seen in enumerate(sorted(counts_shown(rows, lot)))}


def led_world(world, renaming):
    """The world in which the thing that was i is called by the renaming's item at i."""
    require_world(world)
    if not is_renaming(world[0], renaming):
        raise BadRenaming(renaming)
    rows = [(led_outcome(outcome, renaming), count) for outcome, count in world[1]]
    return world[0], tuple(sorted(rows))


def led_outcome(outcome, renaming):
    """The outcome that has at the renaming's item at i what was at i."""
    led = {name: item for name, item in zip(renaming, outcome)}
    return tuple([led[name] for name in range(len(outcome))])
