"""Three things: worlds that are made of coins, and what holds in all worlds."""

from toldamounts.basics import form_named, is_basic_name, names_for
from toldamounts.errors import BadForm, BadTable
from toldamounts.forms import is_form, is_table
from toldamounts.formsums import numbers_by_lot, ordered_lots, value_by_lot
from toldamounts.kinds import is_integer, is_tuple_of
from toldamounts.makingworlds import beside
from toldamounts.namedsums import terms_from
from toldamounts.spaceforms import first_breaking
from toldamounts.toldlots import names_told, require_three_or_four, table_told
from toldamounts.toldsums import is_told_sum, numbers_told
from toldamounts.weighing import weigh

THINGS = 3
MOST_COINS = 5
STILL = (3, (((0, 0, 0), 1),))
THREE = (3, (((0, 0, 0), 1), ((0, 1, 1), 1), ((1, 0, 1), 1), ((1, 1, 0), 1)))


def coins_needed(told):
    """How many coins a told sum of three things needs."""
    return sum([2 * k if name == ("three",) else k for name, k in told])


def world_named(name):
    """The world of one unit of a told lot of three things."""
    if name == ("three",):
        return THREE
    shown = tuple([1 if thing in name[1] else 0 for thing in range(THINGS)])
    return THINGS, (((0, 0, 0), 1), (shown, 1))


def world_told(told):
    """The coin world of a told sum of three things that needs few coins."""
    world = STILL
    for name, k in told:
        for _ in range(k):
            world = beside(world, world_named(name))
    return world


def coin_world(told):
    """The coin world of a told sum of three things."""
    if not is_told_sum(THINGS, told) or coins_needed(told) > MOST_COINS:
        raise BadTable(told)
    return world_told(told)


def table_from(n, numbers):
    """The table of n things with the numbers of a dict by lots."""
    return n, tuple([numbers[lot] for lot in ordered_lots(n)])


def told_sum_table(n, told):
    """The table of a told sum of three or four things."""
    require_three_or_four(n)
    if not is_told_sum(n, told):
        raise BadTable(told)
    return table_from(n, numbers_told(n, told))


def require_table_of_three(thing):
    """Raises BadTable with a value that is no table of three things."""
    if not is_table(thing) or thing[0] != THINGS:
        raise BadTable(thing)


def is_below_at(name, table):
    """Whether the basic form of a name has a value below 0 at a table of three things."""
    return value_by_lot(form_named(THINGS, name), numbers_by_lot(table)) < 0


def judge_table(table):
    """A certificate of whether a table of three things is kept."""
    require_table_of_three(table)
    for name in names_for(THINGS):
        if is_below_at(name, table):
            return ("below", name)
    names = names_told(THINGS)
    m, weights = weigh([list(table_told(THINGS, name)[1]) for name in names], list(table[1]))
    return ("parts", m, terms_from(names, weights))


def table_holds(table, thing):
    """Whether any value is a certificate of whether a table of three things is kept."""
    require_table_of_three(table)
    if is_tuple_of(thing, 2) and thing[0] == "below":
        return is_basic_name(THINGS, thing[1]) and is_below_at(thing[1], table)
    if not is_tuple_of(thing, 3) or thing[0] != "parts":
        return False
    _, m, told = thing
    if not is_integer(m) or m < 1 or not is_told_sum(THINGS, told):
        return False
    return table_from(THINGS, numbers_told(THINGS, told))[1] == tuple([m * number for number in table[1]])


def breaking_world(form):
    """A world in which the value of a form of three things is below nought, or None."""
    if not is_form(form) or form[0] != THINGS:
        raise BadForm(form)
    broken = first_breaking(form)
    return None if broken is None else world_told(((broken, 1),))
