"""Forms of four things that are not below 0 at the ranks of any four subspaces."""

from toldamounts.basics import form_named, is_basic_name, names_for
from toldamounts.errors import BadForm, BadNumber
from toldamounts.forms import is_form
from toldamounts.formsums import added, column_of, numbers_by_lot, value_by_lot
from toldamounts.kinds import is_integer_in, is_lot, is_tuple_of
from toldamounts.namedsums import are_sum_parts, is_named_sum, terms_from
from toldamounts.spaces import THINGS, require_prime
from toldamounts.toldlots import is_told_name, names_told, system_told, table_told
from toldamounts.weighing import weigh


def form_of_four(i, j):
    """The form that is named after two of four things, i below j."""
    k, l = [thing for thing in range(THINGS) if thing != i and thing != j]
    given_k = form_named(THINGS, ("shared", i, j, (k,)))
    given_l = form_named(THINGS, ("shared", i, j, (l,)))
    others = form_named(THINGS, ("shared", k, l, ()))
    return added(THINGS, [(1, given_k), (1, given_l), (1, others), (-1, form_named(THINGS, ("shared", i, j, ())))])


def is_four_name(thing):
    """Whether any value is a name of one of the six forms of four at once."""
    return is_tuple_of(thing, 3) and thing[0] == "four" and is_lot(THINGS, thing[1:])


def space_names():
    """The basic names of four things and the names of the six forms of four at once, ascending."""
    fours = [("four", i, j) for i in range(THINGS) for j in range(i + 1, THINGS)]
    return tuple(sorted(names_for(THINGS) + tuple(fours)))


def is_space_name(n, thing):
    """Whether any value is one of the names of forms that are not below 0 at ranks; n is 4."""
    return is_four_name(thing) or is_basic_name(n, thing)


def space_form_named(n, name):
    """The form of one of these names; n is 4."""
    if name[0] == "four":
        return form_of_four(name[1], name[2])
    return form_named(n, name)


def first_breaking(form):
    """The first told lot's name at whose table the value of a form of three or four things is below 0, or None."""
    n = form[0]
    for name in names_told(n):
        if value_by_lot(form, numbers_by_lot(table_told(n, name))) < 0:
            return name
    return None


def four_form(i, j):
    """The form that is named after two of four things, i below j."""
    for thing in (i, j):
        if not is_integer_in(thing, 0, THINGS - 1):
            raise BadNumber(thing)
    if j <= i:
        raise BadNumber(j)
    return form_of_four(i, j)


def require_form_of_four(thing):
    """Raises BadForm with a value that is no form of four things."""
    if not is_form(thing) or thing[0] != THINGS:
        raise BadForm(thing)


def judge_spaces(form):
    """A certificate of whether a form of four things is not below 0 at the ranks of all systems."""
    require_form_of_four(form)
    broken = first_breaking(form)
    if broken is not None:
        return ("broken", broken)
    names = space_names()
    m, weights = weigh([column_of(space_form_named(THINGS, name)) for name in names], column_of(form))
    return ("sum", m, terms_from(names, weights))


def spaces_hold(form, thing):
    """Whether any value is a certificate of whether a form is not below 0 at the ranks of all systems."""
    require_form_of_four(form)
    if is_tuple_of(thing, 3) and thing[0] == "sum":
        _, m, terms = thing
        return are_sum_parts(THINGS, m, terms, is_space_name) and is_named_sum(form, m, terms, space_form_named)
    if is_tuple_of(thing, 2) and thing[0] == "broken" and is_told_name(THINGS, thing[1]):
        return value_by_lot(form, numbers_by_lot(table_told(THINGS, thing[1]))) < 0
    return False


def breaking_system(p, form):
    """A system with a told prime at whose ranks the value of a form is below 0, or None."""
    require_form_of_four(form)
    require_prime(p)
    broken = first_breaking(form)
    return None if broken is None else system_told(p, broken)
