"""Joined tables of three columns: questions, stores, their answers, and how many rows these can have."""

from toldamounts.coins import world_told
from toldamounts.conditions import is_sum_under, judged, values_told
from toldamounts.errors import BadNumber, BadQuestion, BadStore, BadWeights
from toldamounts.formsums import lots_added
from toldamounts.kinds import are_integers_in, is_ascending, is_integer_in, is_lot, is_tuple_of, is_within
from toldamounts.logsums import power
from toldamounts.statements import form_stated
from toldamounts.toldlots import names_told
from toldamounts.views import shown

COLUMNS = 3
MOST_ROWS = 40
MOST_SHOWN = 99
MOST_POWER = 20
# In the place of an integer for a column that no table has shown yet.
UNKNOWN = -1


def are_question_lots(thing):
    """Whether any value is an ascending tuple of lots of columns, none of them (), in which each column is."""
    if not isinstance(thing, tuple) or not all([is_lot(COLUMNS, lot) and lot != () for lot in thing]):
        return False
    return is_ascending(thing) and all([any([column in lot for lot in thing]) for column in range(COLUMNS)])


def is_key(lots, thing):
    """Whether any value is a key of a question with these lots."""
    if not is_tuple_of(thing, 2) or not is_lot(COLUMNS, thing[0]) or not is_integer_in(thing[1], 0, COLUMNS - 1):
        return False
    lot, i = thing
    return i not in lot and any([is_within(lot + (i,), whole) for whole in lots])


def is_question(thing):
    """Whether any value is a question."""
    if not is_tuple_of(thing, 2) or not are_question_lots(thing[0]) or not isinstance(thing[1], tuple):
        return False
    lots, keys = thing
    return all([is_key(lots, key) for key in keys]) and is_ascending(keys)


def require_question(thing):
    """Raises BadQuestion with a value that is no question."""
    if not is_question(thing):
        raise BadQuestion(thing)


def is_table_of_rows(lot, thing):
    """Whether any value is a table for a lot of columns."""
    if not isinstance(thing, tuple) or len(thing) > MOST_ROWS:
        return False
    if not all([is_tuple_of(row, len(lot)) and are_integers_in(row, 0, MOST_SHOWN) for row in thing]):
        return False
    return is_ascending(thing)


def is_store_of(lots, thing):
    """Whether any value is a store of a question with these lots."""
    if not is_tuple_of(thing, len(lots)):
        return False
    return all([is_table_of_rows(lot, table) for lot, table in zip(lots, thing)])


def is_store(question, thing):
    """Whether any value is a store of a question."""
    require_question(question)
    return is_store_of(question[0], thing)


def require_question_and_store(question, store):
    """Raises BadQuestion with a value that is no question, then BadStore with a value that is no store of it."""
    require_question(question)
    if not is_store_of(question[0], store):
        raise BadStore(store)


def keeps_key(lot, table, key):
    """Whether any two rows of a table that are alike at the key's lot are alike at its column, too."""
    places = [lot.index(column) for column in key[0]]
    place = lot.index(key[1])
    told = {}
    for row in table:
        if told.setdefault(shown(row, places), row[place]) != row[place]:
            return False
    return True


def are_keys_kept(question, store):
    """Whether a store keeps all keys."""
    lots, keys = question
    for key in keys:
        columns = key[0] + (key[1],)
        for lot, table in zip(lots, store):
            if is_within(columns, lot) and not keeps_key(lot, table, key):
                return False
    return True


def keeps_keys(question, store):
    """Whether a store of a question keeps all keys."""
    require_question_and_store(question, store)
    return are_keys_kept(question, store)


def fits(triple, lot, row):
    """Whether a row of a lot's table shows nothing else than a triple, as far as that is known."""
    return all([triple[column] in (UNKNOWN, item) for column, item in zip(lot, row)])


def filled(triple, lot, row):
    """A triple with what a row of a lot's table shows."""
    told = dict(zip(lot, row))
    return tuple([told.get(column, item) for column, item in enumerate(triple)])


def answer_in(lots, store):
    """The triples that show a row of its table at the columns of each lot, ascending."""
    triples = [(UNKNOWN,) * COLUMNS]
    for lot, table in zip(lots, store):
        triples = [filled(triple, lot, row) for triple in triples for row in table if fits(triple, lot, row)]
    return tuple(sorted(triples))


def answer_of(question, store):
    """The answer of a store of a question."""
    require_question_and_store(question, store)
    return answer_in(question[0], store)


def require_claim(question, m, factors):
    """Raises BadQuestion, then BadNumber with the power of the number of rows, then BadWeights with the factors."""
    require_question(question)
    if not is_integer_in(m, 1, MOST_POWER):
        raise BadNumber(m)
    if not is_tuple_of(factors, len(question[0])) or not are_integers_in(factors, 0, MOST_POWER):
        raise BadWeights(factors)


def claimed_form(question, m, factors):
    """The form that is not below nought in worlds that keep the keys if the claim is true."""
    return lots_added(COLUMNS, list(zip(question[0], factors)) + [(tuple(range(COLUMNS)), -m)])


def key_forms(question):
    """The conditions that say the keys, in their order."""
    return tuple([form_stated(COLUMNS, ("tells",) + key) for key in question[1]])


def is_claim_true(question, m, factors, store):
    """Whether the claim is true of a store."""
    bound = 1
    for table, factor in zip(store, factors):
        bound = bound * power(len(table), factor)
    return power(len(answer_in(question[0], store)), m) <= bound


def store_from(question, world):
    """The store whose tables have the rows that the lots show in a world."""
    outcomes = [outcome for outcome, _ in world[1]]
    return tuple([tuple(sorted(set([shown(outcome, lot) for outcome in outcomes]))) for lot in question[0]])


def breaking_lot(form, conditions):
    """The first told lot whose table keeps the conditions and at which the form is below 0, or None."""
    for name in names_told(COLUMNS):
        values = values_told(COLUMNS, name, conditions + (form,))
        if values[-1] < 0 and all([value >= 0 for value in values[:-1]]):
            return name
    return None


def judge_rows(question, m, factors):
    """A certificate of whether the claim is true of all stores that keep the keys."""
    require_claim(question, m, factors)
    form = claimed_form(question, m, factors)
    conditions = key_forms(question)
    # Keys are above 0 at no told lot: so of a told sum that keeps them each lot does, and one alone breaks the form.
    name = breaking_lot(form, conditions)
    if name is not None:
        return ("store", store_from(question, world_told(((name, 1),))))
    return ("always",) + judged(form, conditions)[1:]


def rows_hold(question, m, factors, thing):
    """Whether any value is a certificate of whether the claim is true of all stores that keep the keys."""
    require_claim(question, m, factors)
    if is_tuple_of(thing, 4) and thing[0] == "always":
        return is_sum_under(claimed_form(question, m, factors), key_forms(question), thing)
    if not is_tuple_of(thing, 2) or thing[0] != "store" or not is_store_of(question[0], thing[1]):
        return False
    return are_keys_kept(question, thing[1]) and not is_claim_true(question, m, factors, thing[1])
