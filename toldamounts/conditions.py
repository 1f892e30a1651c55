"""What follows from conditions: forms of three or four things that are told to be not below nought."""

from toldamounts.basics import form_named, is_basic_name, names_for
from toldamounts.errors import BadForm, BadForms, Broken
from toldamounts.forms import is_form
from toldamounts.formsums import added, column_of, numbers_by_lot, value_by_lot
from toldamounts.kinds import is_integer, is_integer_in, is_tuple_of
from toldamounts.namedsums import are_sum_parts, named_pairs, terms_from
from toldamounts.spaceforms import is_space_name, space_form_named, space_names
from toldamounts.toldlots import names_told, table_told
from toldamounts.toldsums import is_told_sum, numbers_told
from toldamounts.weighing import weigh

MOST_CONDITIONS = 6


def sum_names(n):
    """The names of the forms that certificates may add up, for three or four things."""
    return names_for(n) if n == 3 else space_names()


def is_sum_name(n, thing):
    """Whether any value is the name of a form that certificates may add up."""
    return is_basic_name(n, thing) if n == 3 else is_space_name(n, thing)


def sum_form_named(n, name):
    """The form of such a name."""
    return form_named(n, name) if n == 3 else space_form_named(n, name)


def is_form_in_part(thing):
    """Whether any value is a form of three or four things."""
    return is_form(thing) and is_integer_in(thing[0], 3, 4)


def are_conditions(n, thing):
    """Whether any value is a tuple of at most 6 forms of n things."""
    if not isinstance(thing, tuple) or len(thing) > MOST_CONDITIONS:
        return False
    return all([is_form(item) and item[0] == n for item in thing])


def require_form_and_conditions(form, conditions):
    """Raises BadForm with a value that is no form of three or four things, then BadForms with the conditions."""
    if not is_form_in_part(form):
        raise BadForm(form)
    if not are_conditions(form[0], conditions):
        raise BadForms(conditions)


def judged(form, conditions):
    """A certificate of whether a form follows, for arguments that are known to be right.

    Told lots are weighed by their values at the conditions and at the form. Either some of them add up to
    values of which only the form's is below 0; or a multiple of the form is, at each told lot, not below the
    sum of some multiples of the conditions, and then what it has beyond these is a sum of named forms.
    """
    n = form[0]
    names = names_told(n)
    columns = [values_told(n, name, conditions + (form,)) for name in names]
    wanted = [0] * len(conditions) + [-1]
    m, weights = weigh(columns + surpluses(len(conditions)), wanted)
    if m > 0:
        return ("broken", terms_from(names, weights))
    return sum_beyond(form, conditions, weights)


def values_told(n, name, forms):
    """The values of forms at a told lot's table, as a list."""
    numbers = numbers_by_lot(table_told(n, name))
    return [value_by_lot(form, numbers) for form in forms]


def surpluses(many):
    """For each of many conditions a column that takes away what the condition's value is above 0."""
    return [[-1 if place == at else 0 for place in range(many + 1)] for at in range(many)]


def sum_beyond(form, conditions, multiples):
    """The certificate for a form that follows.

    The last of the multiples is the form's, and above 0; those of the conditions are not above 0.
    """
    n = form[0]
    names = sum_names(n)
    beyond = added(n, list(zip(multiples, conditions + (form,))))
    m, weights = weigh([column_of(sum_form_named(n, name)) for name in names], column_of(beyond))
    factors = tuple([-m * multiple for multiple in multiples[:-1]])
    return ("sum", m * multiples[-1], terms_from(names, weights), factors)


def judge_under(form, conditions):
    """A certificate of whether a form follows from conditions."""
    require_form_and_conditions(form, conditions)
    return judged(form, conditions)


def under_holds(form, conditions, thing):
    """Whether any value is a certificate of whether a form follows from conditions."""
    require_form_and_conditions(form, conditions)
    if is_tuple_of(thing, 4) and thing[0] == "sum":
        return is_sum_under(form, conditions, thing)
    if not is_tuple_of(thing, 2) or thing[0] != "broken" or not is_told_sum(form[0], thing[1]):
        return False
    numbers = numbers_told(form[0], thing[1])
    return value_by_lot(form, numbers) < 0 and all([value_by_lot(each, numbers) >= 0 for each in conditions])


def is_sum_under(form, conditions, thing):
    """Whether a tuple of four tells named forms and conditions that add up to a multiple of a form."""
    n = form[0]
    _, m, terms, factors = thing
    if not are_sum_parts(n, m, terms, is_sum_name) or not is_tuple_of(factors, len(conditions)):
        return False
    if not all([is_integer(factor) and factor >= 0 for factor in factors]):
        return False
    pairs = named_pairs(n, terms, sum_form_named) + list(zip(factors, conditions))
    return added(n, pairs) == added(n, [(m, form)])


def follows(form, conditions):
    """Whether a form follows from conditions, for arguments that are known to be right."""
    return judged(form, conditions)[0] == "sum"


def is_following(form, conditions):
    """Whether a form follows from conditions."""
    require_form_and_conditions(form, conditions)
    return follows(form, conditions)


def least_positions(form, conditions):
    """Positions of conditions from which a form follows, while it does not if one of them is left out."""
    require_form_and_conditions(form, conditions)
    found = judged(form, conditions)
    if found[0] == "broken":
        raise Broken(found)
    kept = list(range(len(conditions)))
    for at in range(len(conditions)):
        fewer = [position for position in kept if position != at]
        if follows(form, tuple([conditions[position] for position in fewer])):
            kept = fewer
    return tuple(kept)


def needless_positions(conditions):
    """The positions of the conditions that follow from the others."""
    require_some_conditions(conditions)
    return tuple([at for at in range(len(conditions)) if is_needless(conditions, at)])


def require_some_conditions(thing):
    """Raises BadForms with a value that is no tuple of 1 to 6 forms of three, or of four, things."""
    if not isinstance(thing, tuple) or thing == () or not is_form_in_part(thing[0]):
        raise BadForms(thing)
    if not are_conditions(thing[0][0], thing):
        raise BadForms(thing)


def is_needless(conditions, at):
    """Whether the condition at a position follows from the others."""
    return follows(conditions[at], conditions[:at] + conditions[at + 1:])
