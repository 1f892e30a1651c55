"""What a form says of four things in all worlds: sure, broken by a world, or open."""

from itertools import permutations

from toldamounts.amounts import sign_of
from toldamounts.basics import form_named, is_basic_name, names_for
from toldamounts.bits import bit_rows, number_of_bits
from toldamounts.copies import form_of_copy, is_copy_name
from toldamounts.errors import BadNumber, BadPrime
from toldamounts.forms import value_in
from toldamounts.formsums import column_of
from toldamounts.kinds import is_tuple_of
from toldamounts.makingworlds import led_world
from toldamounts.namedsums import are_sum_parts, is_named_sum, terms_from
from toldamounts.spaceforms import first_breaking, require_form_of_four
from toldamounts.spaces import THINGS, require_system
from toldamounts.toldlots import system_told
from toldamounts.weighing import weigh
from toldamounts.worlds import is_world

MOST_FIGURES = 5
FOUR_ROWS = (4, (((0, 0, 0, 0), 1), ((1, 0, 0, 1), 1), ((1, 0, 1, 0), 1), ((1, 1, 1, 1), 1)))
OPEN = ("open",)


def bit_of(row, figures):
    """The remainder by 2 of the sum of the products of a row and some figures."""
    return sum([item * figure for item, figure in zip(row, figures)]) % 2


def world_of_system(system):
    """The world of a system with p = 2 and few figures."""
    _, d, tables = system
    counts = {}
    for figures in bit_rows(d):
        outcome = tuple([number_of_bits([bit_of(row, figures) for row in rows]) for rows in tables])
        counts[outcome] = counts.get(outcome, 0) + 1
    return THINGS, tuple(sorted(counts.items()))


def system_world(system):
    """The world of a system with p = 2 and at most 5 figures in a row."""
    require_system(system)
    p, d, _ = system
    if p != 2:
        raise BadPrime(p)
    if d > MOST_FIGURES:
        raise BadNumber(d)
    return world_of_system(system)


def four_rows():
    """The world of four rows in which the form of four at once, named after 0 and 1, is below nought."""
    return FOUR_ROWS


def renamings_of_four():
    """All renamings of four things, in order."""
    return sorted(permutations(list(range(THINGS))))


def is_below_in(form, world):
    """Whether the value of a form is below nought in a world of as many things."""
    return sign_of(value_in(form, world)) < 0


def first_told_world(form):
    """A told world in which a form of four things is below nought, or None."""
    broken = first_breaking(form)
    # The amounts in the world of a system are its ranks, times log 2.
    if broken is not None:
        return world_of_system(system_told(2, broken))
    for renaming in renamings_of_four():
        world = led_world(FOUR_ROWS, renaming)
        if is_below_in(form, world):
            return world
    return None


def drawn_names():
    """The basic names of four things and the names of the forms by copies, ascending."""
    copies = [("copy", i, j) for i in range(THINGS) for j in range(THINGS) if i != j]
    return tuple(sorted(names_for(THINGS) + tuple(copies)))


def is_drawn_name(n, thing):
    """Whether any value is one of the names of forms that are below nought in no world; n is 4."""
    return is_copy_name(thing) or is_basic_name(n, thing)


def drawn_form_named(n, name):
    """The form of one of these names; n is 4."""
    if name[0] == "copy":
        return form_of_copy(name[1], name[2])
    return form_named(n, name)


def judge_drawn(form):
    """A certificate of what a form says of four things in all worlds."""
    require_form_of_four(form)
    world = first_told_world(form)
    if world is not None:
        return ("world", world)
    names = drawn_names()
    m, weights = weigh([column_of(drawn_form_named(THINGS, name)) for name in names], column_of(form))
    return ("sum", m, terms_from(names, weights)) if m > 0 else OPEN


def drawn_holds(form, thing):
    """Whether any value is a certificate of what a form says of four things in all worlds."""
    require_form_of_four(form)
    if thing == OPEN:
        return judge_drawn(form) == OPEN
    if is_tuple_of(thing, 3) and thing[0] == "sum":
        _, m, terms = thing
        return are_sum_parts(THINGS, m, terms, is_drawn_name) and is_named_sum(form, m, terms, drawn_form_named)
    if is_tuple_of(thing, 2) and thing[0] == "world" and is_world(thing[1]):
        return thing[1][0] == THINGS and is_below_in(form, thing[1])
    return False
