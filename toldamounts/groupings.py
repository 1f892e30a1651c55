"""Groupings: closed sets of motions within a whole one, the amounts of their lots, and their worlds."""

from toldamounts.errors import BadGrouping, BadLot, BadNumber, OtherSize
from toldamounts.forms import require_form
from toldamounts.groups import MOST_POINTS, are_makers
from toldamounts.kinds import is_integer_in, is_lot, is_tuple_of
from toldamounts.logsums import amount_from, combined
from toldamounts.motions import MOST_MEMBERS, after, members_made, rows_of_makers
from toldamounts.primes import prime_powers

MOST_PARTS = 4
MOST_ROWS = 40
FIVE_ORDERS = (
    5,
    ((1, 0, 2, 3, 4), (1, 2, 3, 4, 0)),
    (
        ((0, 1, 3, 4, 2), (1, 0, 2, 4, 3)),
        ((1, 2, 3, 0, 4), (2, 1, 4, 0, 3)),
        ((1, 2, 3, 0, 4), (0, 3, 2, 1, 4)),
        ((1, 3, 2, 4, 0), (1, 0, 2, 4, 3)),
    ),
)


def is_grouping(thing):
    """Whether any value is a grouping."""
    if not is_tuple_of(thing, 3) or not is_integer_in(thing[0], 1, MOST_POINTS) or not are_makers(thing[0], thing[1]):
        return False
    m, makers, parts = thing
    if not isinstance(parts, tuple) or not 1 <= len(parts) <= MOST_PARTS:
        return False
    if not all([are_makers(m, part) for part in parts]):
        return False
    whole = rows_of_makers(m, makers)
    # A closed set lies within the whole one if its makers do.
    return len(whole) <= MOST_MEMBERS and all([all([maker in whole for maker in part]) for part in parts])


def require_grouping(thing):
    """Raises BadGrouping with a value that is no grouping."""
    if not is_grouping(thing):
        raise BadGrouping(thing)


def require_grouping_and_lot(grouping, lot):
    """Raises BadGrouping with a value that is none, then BadLot with a value that is no lot of its things."""
    require_grouping(grouping)
    if not is_lot(len(grouping[2]), lot):
        raise BadLot(lot)


def meet_in(grouping, lot):
    """The motions that are members for all things of a lot, ascending."""
    m, makers, parts = grouping
    members = members_made(m, makers)
    for thing in lot:
        own = rows_of_makers(m, parts[thing])
        members = tuple([member for member in members if member in own])
    return members


def amount_met(grouping, lot):
    """The amount of a lot: the logarithm of how many times the whole is greater than the meet."""
    times = len(meet_in(grouping, ())) // len(meet_in(grouping, lot))
    return amount_from(1, prime_powers(times))


def meet_of(grouping, lot):
    """The ascending tuple of the motions that are members for all things of a lot."""
    require_grouping_and_lot(grouping, lot)
    return meet_in(grouping, lot)


def group_amount(grouping, lot):
    """The amount of a lot of the things of a grouping."""
    require_grouping_and_lot(grouping, lot)
    return amount_met(grouping, lot)


def group_value(grouping, form):
    """The value of a form of as many things at the amounts of a grouping."""
    require_grouping(grouping)
    require_form(form)
    if form[0] != len(grouping[2]):
        raise OtherSize(form)
    return combined([(factor, amount_met(grouping, lot)) for lot, factor in form[1]])


def class_places(whole, own):
    """For each member of the whole, the position of its class of alike ones, in a dict; own are a thing's members."""
    firsts = {member: min([after(each, member) for each in own]) for member in whole}
    places = {first: at for at, first in enumerate(sorted(set(list(firsts.values()))))}
    return {member: places[first] for member, first in firsts.items()}


def grouping_world(grouping):
    """The world of a grouping."""
    require_grouping(grouping)
    m, makers, parts = grouping
    whole = members_made(m, makers)
    places = [class_places(whole, members_made(m, part)) for part in parts]
    outcomes = sorted(set([tuple([place[member] for place in places]) for member in whole]))
    if len(outcomes) > MOST_ROWS:
        raise BadNumber(len(outcomes))
    return len(parts), tuple([(outcome, 1) for outcome in outcomes])


def five_orders():
    """The grouping of five points at which a form of four at once is below nought."""
    return FIVE_ORDERS
