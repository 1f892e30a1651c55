"""Sums of forms that are told by names."""

from toldamounts.formsums import added
from toldamounts.kinds import is_ascending, is_integer, is_tuple_of


def terms_from(names, weights):
    """The pairs (name, weight) with the weights that are not 0."""
    return tuple([(name, weight) for name, weight in zip(names, weights) if weight != 0])


def is_named_term(n, thing, is_name):
    """Whether any value is a pair of a name for n things and an integer above 0."""
    if not is_tuple_of(thing, 2) or not is_name(n, thing[0]):
        return False
    return is_integer(thing[1]) and thing[1] > 0


def are_named_terms(n, thing, is_name):
    """Whether any value is an ascending tuple of pairs (name, integer above 0), no name twice."""
    if not isinstance(thing, tuple) or not all([is_named_term(n, term, is_name) for term in thing]):
        return False
    return is_ascending([term[0] for term in thing])


def are_sum_parts(n, m, terms, is_name):
    """Whether any values are an integer above 0 and named terms for n things."""
    return is_integer(m) and m > 0 and are_named_terms(n, terms, is_name)


def named_pairs(n, terms, form_named):
    """The pairs (integer, form) of named terms for n things, form_named giving the form of a name."""
    return [(k, form_named(n, name)) for name, k in terms]


def is_named_sum(form, m, terms, form_named):
    """Whether the named forms, times their integers, add up to m times a form."""
    n = form[0]
    return added(n, named_pairs(n, terms, form_named)) == added(n, [(m, form)])
