"""Sums of forms that are told by names."""

from toldamounts.kinds import is_ascending, is_integer, is_tuple_of


def terms_from(names, weights):
    """The pairs (name, weight) with the weights that are not 0."""
    return tuple([(name, weight) for name, weight in zip(names, weights) if weight != 0])


def is_named_term(n, thing, is_name):
    """Whether any value is a pair of a name for n things and an integer above 0."""
    if not is_tuple_of(thing, 2) or not is_name(n, thing[0]):
        return False
    return is_integer(thing[1]) and thing[1] > 0


def are_named_terms(n, thing, is_name):
    """Whether any value is an ascending tuple of pairs (name, integer above 0), no name twice."""
    if not isinstance(thing, tuple) or not all([is_named_term(n, term, is_name) for term in thing]):
        return False
    return is_ascending([term[0] for term in thing])
