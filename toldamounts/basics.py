"""Basic forms, which are below nought in no world, and forms that are sums of them."""

from toldamounts.errors import BadForm, BadName
from toldamounts.forms import is_form, is_table, require_size
from toldamounts.formsums import column_of, form_from, lots_within, numbers_by_lot, value_by_lot
from toldamounts.kinds import are_integers_in, is_lot, is_tuple_of
from toldamounts.namedsums import are_sum_parts, is_named_sum, terms_from
from toldamounts.views import joined
from toldamounts.weighing import weigh

MOST_JUDGED = 4


def names_for(n):
    """The basic names of n things."""
    names = [("alone", i) for i in range(n)]
    for i in range(n):
        for j in range(i + 1, n):
            others = [k for k in range(n) if k != i and k != j]
            names.extend([("shared", i, j, lot) for lot in lots_within(others)])
    return tuple(sorted(names))


def form_named(n, name):
    """The basic form of a name."""
    if name[0] == "alone":
        others = tuple([k for k in range(n) if k != name[1]])
        return form_from(n, {tuple(range(n)): 1, others: -1})
    _, i, j, lot = name
    return form_from(n, {joined(lot, (i,)): 1, joined(lot, (j,)): 1, joined(lot, (i, j)): -1, lot: -1})


def is_basic_name(n, thing):
    """Whether any value is a basic name of n things."""
    if is_tuple_of(thing, 2):
        return thing[0] == "alone" and are_integers_in(thing[1:], 0, n - 1)
    if not is_tuple_of(thing, 4) or thing[0] != "shared":
        return False
    pair = thing[1:3]
    return is_lot(n, pair) and is_lot(n, thing[3]) and not any([item in thing[3] for item in pair])


def basic_names(n):
    """The ascending tuple of the basic names of n things."""
    require_size(n)
    return names_for(n)


def basic_form(n, name):
    """The basic form of a name of n things."""
    require_size(n)
    if not is_basic_name(n, name):
        raise BadName(name)
    return form_named(n, name)


def is_kept(thing):
    """Whether any value is a table at which no basic form has a value below 0."""
    if not is_table(thing):
        return False
    numbers = numbers_by_lot(thing)
    return all([value_by_lot(form_named(thing[0], name), numbers) >= 0 for name in names_for(thing[0])])


def require_judged_form(thing):
    """Raises BadForm with a value that is no form of at most four things."""
    if not is_form(thing) or thing[0] > MOST_JUDGED:
        raise BadForm(thing)


def judge_basic(form):
    """A certificate of whether a form is a sum of basic forms."""
    require_judged_form(form)
    n = form[0]
    names = names_for(n)
    m, numbers = weigh([column_of(form_named(n, name)) for name in names], column_of(form))
    if m == 0:
        return ("table", (n, tuple(numbers)))
    return ("sum", m, terms_from(names, numbers))


def basic_holds(form, thing):
    """Whether any value is a certificate of whether a form is a sum of basic forms."""
    require_judged_form(form)
    if is_tuple_of(thing, 3) and thing[0] == "sum":
        _, m, terms = thing
        return are_sum_parts(form[0], m, terms, is_basic_name) and is_named_sum(form, m, terms, form_named)
    if is_tuple_of(thing, 2) and thing[0] == "table":
        return is_kept(thing[1]) and thing[1][0] == form[0] and value_by_lot(form, numbers_by_lot(thing[1])) < 0
    return False
