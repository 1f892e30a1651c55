"""Forms: sums of amounts of lots with whole factors; tables of numbers for the lots."""

from toldamounts.errors import BadForm, BadLot, BadNumber, BadRenaming, BadTable, OtherSize
from toldamounts.formsums import added, form_from, lots_added, numbers_by_lot, ordered_lots, value_by_lot
from toldamounts.kinds import is_ascending, is_integer, is_integer_in, is_lot, is_renaming, is_tuple_of
from toldamounts.logsums import combined
from toldamounts.views import amount_in, joined
from toldamounts.worlds import require_world

MOST_THINGS = 5


def is_term(n, thing):
    """Whether any value is a pair of a lot other than () and a factor other than 0."""
    if not is_tuple_of(thing, 2) or not is_lot(n, thing[0]) or thing[0] == ():
        return False
    return is_integer(thing[1]) and thing[1] != 0


def is_form(thing):
    """Whether any value is a form."""
    if not is_tuple_of(thing, 2):
        return False
    n, terms = thing
    if not is_integer_in(n, 1, MOST_THINGS) or not isinstance(terms, tuple):
        return False
    return all([is_term(n, term) for term in terms]) and is_ascending([term[0] for term in terms])


def is_table(thing):
    """Whether any value is a table."""
    if not is_tuple_of(thing, 2) or not is_integer_in(thing[0], 1, MOST_THINGS):
        return False
    n, numbers = thing
    return is_tuple_of(numbers, (1 << n) - 1) and all([is_integer(number) for number in numbers])


def require_form(thing):
    """Raises BadForm with a value that is no form."""
    if not is_form(thing):
        raise BadForm(thing)


def require_size(n):
    """Raises BadNumber with a value that is no number of things of a form."""
    if not is_integer_in(n, 1, MOST_THINGS):
        raise BadNumber(n)


def require_size_and_lots(n, lots):
    """Raises BadNumber with a value that is no number of things, then BadLot with the first that is no lot of them."""
    require_size(n)
    for lot in lots:
        if not is_lot(n, lot):
            raise BadLot(lot)


def lots_of(n):
    """The lots in order of n things."""
    require_size(n)
    return ordered_lots(n)


def plus_forms(one, other):
    """The sum of two forms of as many things."""
    require_form(one)
    require_form(other)
    if other[0] != one[0]:
        raise OtherSize(other)
    return added(one[0], [(1, one), (1, other)])


def times_form(form, k):
    """A form times an integer."""
    require_form(form)
    if not is_integer(k):
        raise BadNumber(k)
    return added(form[0], [(k, form)])


def led_form(form, renaming):
    """The form in which the thing i is called by the renaming's item at i."""
    require_form(form)
    n, terms = form
    if not is_renaming(n, renaming):
        raise BadRenaming(renaming)
    return form_from(n, {tuple(sorted([renaming[thing] for thing in lot])): factor for lot, factor in terms})


def shared_form(n, one, other, given):
    """The form whose value is what two lots share, given a third one."""
    require_size_and_lots(n, [one, other, given])
    less = joined(one, joined(other, given))
    return lots_added(n, [(joined(one, given), 1), (joined(other, given), 1), (less, -1), (given, -1)])


def given_form(n, one, given):
    """The form whose value is the amount of a lot, given another one."""
    require_size_and_lots(n, [one, given])
    return lots_added(n, [(joined(one, given), 1), (given, -1)])


def value_at(form, table):
    """The value of a form at a table of as many things."""
    require_form(form)
    if not is_table(table) or table[0] != form[0]:
        raise BadTable(table)
    return value_by_lot(form, numbers_by_lot(table))


def value_in(form, world):
    """The value of a form in a world of as many things: an amount."""
    require_form(form)
    require_world(world)
    if world[0] != form[0]:
        raise OtherSize(world)
    return combined([(factor, amount_in(world, lot)) for lot, factor in form[1]])
