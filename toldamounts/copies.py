"""Forms of four things that hold by a copy of one of them, and papers that show it."""

from toldamounts.basics import form_named, is_basic_name
from toldamounts.errors import BadNumber
from toldamounts.forms import shared_form
from toldamounts.formsums import added, lots_added
from toldamounts.kinds import is_ascending, is_integer, is_integer_in, is_lot, is_tuple_of, is_within
from toldamounts.namedsums import are_sum_parts, named_pairs
from toldamounts.spaceforms import require_form_of_four
from toldamounts.spaces import THINGS
from toldamounts.views import joined

COPY = (4,)
WITH_COPY = 5
# A copy paper for the form that is named after 0 and 1, by a copy of 0 over 2 and 3: its terms and equals.
TERMS = (
    (("shared", 0, 1, (4,)), 1),
    (("shared", 0, 4, (1, 2, 3)), 1),
    (("shared", 0, 4, (2,)), 1),
    (("shared", 0, 4, (3,)), 1),
    (("shared", 1, 4, (0, 2, 3)), 1),
    (("shared", 1, 4, (2,)), 1),
    (("shared", 1, 4, (3,)), 1),
    (("shared", 2, 3, (0, 4)), 1),
    (("shared", 2, 3, (1, 4)), 1),
    (("shared", 2, 4, (0, 1, 3)), 1),
    (("shared", 3, 4, (0, 1)), 1),
)
EQUALS = ((("apart",), -3), (("same", ()), 1), (("same", (2,)), -2), (("same", (2, 3)), 3), (("same", (3,)), -2))


def others_than(i, j):
    """The two others of the four things, ascending."""
    return tuple([thing for thing in range(THINGS) if thing != i and thing != j])


def form_of_copy(i, j):
    """The form that holds by copies and is named after two of four things."""
    k, l = [(thing,) for thing in others_than(i, j)]
    return added(THINGS, [
        (1, shared_form(THINGS, (i,), (j,), ())),
        (1, shared_form(THINGS, (i,), k + l, ())),
        (3, shared_form(THINGS, k, l, (i,))),
        (1, shared_form(THINGS, k, l, (j,))),
        (-2, shared_form(THINGS, k, l, ())),
    ])


def is_copy_name(thing):
    """Whether any value is a name of one of the twelve forms by copies."""
    if not is_tuple_of(thing, 3) or thing[0] != "copy":
        return False
    return all([is_integer_in(item, 0, THINGS - 1) for item in thing[1:]]) and thing[1] != thing[2]


def require_unlike_things(i, j):
    """Raises BadNumber with the first value that is none of four things, then with the second one if both are equal."""
    for thing in (i, j):
        if not is_integer_in(thing, 0, THINGS - 1):
            raise BadNumber(thing)
    if i == j:
        raise BadNumber(j)


def copy_form(i, j):
    """The form that holds by copies and is named after two unlike things of four."""
    require_unlike_things(i, j)
    return form_of_copy(i, j)


def is_equality_name(over, thing):
    """Whether any value names a form that is nought if there is a copy over a lot."""
    if thing == ("apart",):
        return True
    if not is_tuple_of(thing, 2) or thing[0] != "same":
        return False
    return is_lot(THINGS, thing[1]) and is_within(thing[1], over)


def equality_form(c, over, name):
    """The form of five things that is nought if the last one is a copy of c over a lot."""
    if name[0] == "same":
        return lots_added(WITH_COPY, [(joined(name[1], COPY), 1), (joined(name[1], (c,)), -1)])
    rest = tuple([thing for thing in range(THINGS) if thing not in over])
    return shared_form(WITH_COPY, COPY, rest, over)


def is_equal_term(over, thing):
    """Whether any value is a pair of an equality name and an integer other than 0."""
    if not is_tuple_of(thing, 2) or not is_equality_name(over, thing[0]):
        return False
    return is_integer(thing[1]) and thing[1] != 0


def are_equal_terms(over, thing):
    """Whether any value is an ascending tuple of such pairs, no name twice."""
    if not isinstance(thing, tuple) or not all([is_equal_term(over, term) for term in thing]):
        return False
    return is_ascending([term[0] for term in thing])


def is_paper(thing):
    """Whether any value has the parts of a copy paper, be they right or not."""
    if not is_tuple_of(thing, 5):
        return False
    c, over, m, terms, equals = thing
    if not is_integer_in(c, 0, THINGS - 1) or not is_lot(THINGS, over) or c in over:
        return False
    return are_sum_parts(WITH_COPY, m, terms, is_basic_name) and are_equal_terms(over, equals)


def copies_hold(form, thing):
    """Whether any value is a copy paper for a form of four things."""
    require_form_of_four(form)
    if not is_paper(thing):
        return False
    c, over, m, terms, equals = thing
    pairs = [(k, equality_form(c, over, name)) for name, k in equals]
    return added(WITH_COPY, named_pairs(WITH_COPY, terms, form_named) + pairs) == added(WITH_COPY, [(m, form)])


def led_lot(renaming, lot):
    """The lot of what the things of a lot are called by a renaming, ascending."""
    return tuple(sorted([renaming[thing] for thing in lot]))


def told_paper(i, j):
    """A copy paper for the form that is named after two unlike things of four."""
    require_unlike_things(i, j)
    over = others_than(i, j)
    renaming = (i, j) + over + COPY
    terms = [((kind,) + led_lot(renaming, (a, b)) + (led_lot(renaming, lot),), k) for (kind, a, b, lot), k in TERMS]
    equals = [((name[0],) + tuple([led_lot(renaming, lot) for lot in name[1:]]), k) for name, k in EQUALS]
    return i, over, 1, tuple(sorted(terms)), tuple(sorted(equals))
