"""Statements: forms that are above nought in no world, so that a condition says that they are nought."""

from toldamounts.basics import form_named
from toldamounts.conditions import are_conditions, follows
from toldamounts.errors import BadForms, BadName
from toldamounts.forms import require_size
from toldamounts.formsums import added, lots_added, lots_within
from toldamounts.kinds import is_integer_in, is_lot, is_tuple_of
from toldamounts.views import joined


def is_statement(n, thing):
    """Whether any value is a statement about n things."""
    if is_tuple_of(thing, 3) and thing[0] == "tells":
        return is_lot(n, thing[1]) and is_integer_in(thing[2], 0, n - 1) and thing[2] not in thing[1]
    if not is_tuple_of(thing, 4) or thing[0] != "apart":
        return False
    pair = thing[1:3]
    return is_lot(n, pair) and is_lot(n, thing[3]) and not any([item in thing[3] for item in pair])


def form_stated(n, statement):
    """The form of a statement about n things."""
    if statement[0] == "tells":
        _, lot, i = statement
        return lots_added(n, [(lot, 1), (joined(lot, (i,)), -1)])
    return added(n, [(-1, form_named(n, ("shared",) + statement[1:]))])


def all_statements(n):
    """The statements about n things, ascending."""
    statements = []
    for i in range(n):
        others = [thing for thing in range(n) if thing != i]
        statements.extend([("tells", lot, i) for lot in lots_within(others)])
        for j in range(i + 1, n):
            left = [thing for thing in others if thing != j]
            statements.extend([("apart", i, j, lot) for lot in lots_within(left)])
    return tuple(sorted(statements))


def statement_form(n, statement):
    """The form of a statement about n things."""
    require_size(n)
    if not is_statement(n, statement):
        raise BadName(statement)
    return form_stated(n, statement)


def told_statements(conditions):
    """The ascending tuple of the statements about three things that follow from conditions."""
    if not are_conditions(3, conditions):
        raise BadForms(conditions)
    return tuple([statement for statement in all_statements(3) if follows(form_stated(3, statement), conditions)])
