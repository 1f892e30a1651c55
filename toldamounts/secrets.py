"""Shared secrets: structures, dealings, and how much the sharers must have."""

from toldamounts.bits import bit_rows, number_of_bits
from toldamounts.errors import BadLot, BadNumber, BadStructure, BadWeights, OtherSize
from toldamounts.forms import is_table
from toldamounts.formsums import added, form_from, lots_within, numbers_by_lot, ordered_lots, value_by_lot
from toldamounts.kinds import are_integers_in, is_ascending, is_integer, is_integer_in, is_lot, is_tuple_of, is_within
from toldamounts.namedsums import are_named_terms, terms_from
from toldamounts.views import counts_shown, joined
from toldamounts.weighing import weigh
from toldamounts.worlds import APART, TELLS, judge_apart, judge_tells, require_world

FEWEST_SHARERS = 2
MOST_SHARERS = 4
MOST_WEIGHT = 20
RIGHT = ("right",)
NOTHING = ("nothing",)
SECRET = ("secret",)


def are_leasts(n, thing):
    """Whether any value is an ascending tuple of lots of n sharers, none of which has all things of another one."""
    if not isinstance(thing, tuple) or not all([is_lot(n, lot) and lot != () for lot in thing]):
        return False
    if thing == () or not is_ascending(thing):
        return False
    return not any([any([one != other and is_within(one, other) for one in thing]) for other in thing])


def is_structure(thing):
    """Whether any value is a structure."""
    if not is_tuple_of(thing, 2) or not is_integer_in(thing[0], FEWEST_SHARERS, MOST_SHARERS):
        return False
    return are_leasts(thing[0], thing[1])


def require_structure(thing):
    """Raises BadStructure with a value that is no structure."""
    if not is_structure(thing):
        raise BadStructure(thing)


def is_opening(structure, lot):
    """Whether a lot of sharers opens."""
    return any([is_within(least, lot) for least in structure[1]])


def opens(structure, lot):
    """Whether a lot of the sharers of a structure opens."""
    require_structure(structure)
    if not is_lot(structure[0], lot):
        raise BadLot(lot)
    return is_opening(structure, lot)


def dealt_outcome(structure, secret, coins):
    """The outcome of a plain dealing for a secret and the coins of all least lots."""
    n, leasts = structure
    hands = [[] for _ in range(n)]
    at = 0
    for least in leasts:
        own = coins[at:at + len(least) - 1]
        at += len(own)
        for sharer, bit in zip(least, own + ((secret + sum(own)) % 2,)):
            hands[sharer].append(bit)
    return tuple([number_of_bits(hand) for hand in hands]) + (secret,)


def plain_dealing(structure):
    """The plain dealing of a structure."""
    require_structure(structure)
    n, leasts = structure
    many = sum([len(least) - 1 for least in leasts])
    rows = [(dealt_outcome(structure, bits[0], bits[1:]), 1) for bits in bit_rows(1 + many)]
    return n + 1, tuple(sorted(rows))


def require_dealing(structure, world):
    """Raises BadStructure, then BadWorld, then OtherSize with a world that is no dealing for a structure."""
    require_structure(structure)
    require_world(world)
    if world[0] != structure[0] + 1:
        raise OtherSize(world)


def is_nothing(world):
    """Whether the amount of the secret of a dealing is nought."""
    return len(counts_shown(world[1], (world[0] - 1,))) == 1


def is_closed_lot(structure, world, lot):
    """Whether a lot opens and does not tell the secret."""
    return is_opening(structure, lot) and judge_tells(world, lot, (structure[0],)) != TELLS


def is_leaking_lot(structure, world, lot):
    """Whether a lot does not open and is not apart from the secret."""
    return not is_opening(structure, lot) and judge_apart(world, lot, (structure[0],), ()) != APART


def judge_dealing(structure, world):
    """A certificate of whether a world is a right dealing for a structure."""
    require_dealing(structure, world)
    if is_nothing(world):
        return NOTHING
    for lot in ordered_lots(structure[0]):
        if is_closed_lot(structure, world, lot):
            return ("closed", lot)
        if is_leaking_lot(structure, world, lot):
            return ("leaks", lot)
    return RIGHT


def dealing_holds(structure, world, thing):
    """Whether any value is a certificate of whether a world is a right dealing for a structure."""
    require_dealing(structure, world)
    if thing == RIGHT:
        return judge_dealing(structure, world) == RIGHT
    if thing == NOTHING:
        return is_nothing(world)
    if not is_tuple_of(thing, 2) or not is_lot(structure[0], thing[1]):
        return False
    if thing[0] == "closed":
        return is_closed_lot(structure, world, thing[1])
    return thing[0] == "leaks" and is_leaking_lot(structure, world, thing[1])


def share_names(n):
    """The share names of n sharers, ascending."""
    names = [SECRET]
    for i in range(n):
        others = [thing for thing in range(n) if thing != i]
        names.extend([("alone", i, lot) for lot in lots_within(others)])
        for j in range(i + 1, n):
            left = [thing for thing in others if thing != j]
            names.extend([("shared", i, j, lot) for lot in lots_within(left)])
    return sorted(names)


def is_share_name(n, thing):
    """Whether any value is a share name of n sharers."""
    if thing == SECRET:
        return True
    if is_tuple_of(thing, 3) and thing[0] == "alone":
        return is_integer_in(thing[1], 0, n - 1) and is_lot(n, thing[2]) and thing[1] not in thing[2]
    if not is_tuple_of(thing, 4) or thing[0] != "shared":
        return False
    pair = thing[1:3]
    return is_lot(n, pair) and is_lot(n, thing[3]) and not any([item in thing[3] for item in pair])


def share_form(structure, name):
    """The form of a share name; as a lot, the secret stands in it for its own amount."""
    n = structure[0]
    secret = (n,)
    if name == SECRET:
        return form_from(n + 1, {secret: 1})
    lot = name[-1]
    ends = [joined(lot, (i,)) for i in name[1:-1]]
    if is_opening(structure, lot) or not all([is_opening(structure, end) for end in ends]):
        less = 0
    else:
        less = -1
    if name[0] == "alone":
        return form_from(n + 1, {ends[0]: 1, lot: -1, secret: less})
    return form_from(n + 1, {ends[0]: 1, ends[1]: 1, joined(ends[0], ends[1]): -1, lot: -1, secret: less})


def asked_form(weights, total):
    """The form of the claim that the sharers' amounts, times their weights, are so many times the secret's."""
    n = len(weights)
    factors = {(i,): weight for i, weight in enumerate(weights)}
    factors[(n,)] = -total
    return form_from(n + 1, factors)


def require_claim(structure, weights, total):
    """Raises BadStructure, then BadWeights with a value that is no weights, then BadNumber with the total."""
    require_structure(structure)
    if not is_tuple_of(weights, structure[0]) or not are_integers_in(weights, 0, MOST_WEIGHT):
        raise BadWeights(weights)
    if not is_integer_in(total, 0, MOST_WEIGHT):
        raise BadNumber(total)


def share_column(form):
    """The factors of a form of share names: of all lots of sharers in order, and of the secret."""
    n = form[0] - 1
    factors = dict(form[1])
    return [factors.get(lot, 0) for lot in ordered_lots(n) + ((n,),)]


def judge_shares(structure, weights, total):
    """A certificate of whether the share names show a claim on the sharers' amounts."""
    require_claim(structure, weights, total)
    n = structure[0]
    names = share_names(n)
    columns = [share_column(share_form(structure, name)) for name in names]
    m, numbers = weigh(columns, share_column(asked_form(weights, total)))
    if m > 0:
        return ("sum", m, terms_from(names, numbers))
    return ("table", numbers[-1], (n, tuple(numbers[:-1])))


def shares_hold(structure, weights, total, thing):
    """Whether any value is a certificate of whether the share names show a claim on the sharers' amounts."""
    require_claim(structure, weights, total)
    asked = asked_form(weights, total)
    if not is_tuple_of(thing, 3) or not is_integer(thing[1]) or thing[1] < 1:
        return False
    if thing[0] == "sum":
        return is_share_sum(structure, asked, thing[1], thing[2])
    return thing[0] == "table" and is_share_table(structure, asked, thing[1], thing[2])


def is_share_sum(structure, asked, m, terms):
    """Whether any value is named terms that add up to m times the asked form."""
    n = structure[0]
    if not are_named_terms(n, terms, is_share_name):
        return False
    return added(n + 1, [(k, share_form(structure, name)) for name, k in terms]) == added(n + 1, [(m, asked)])


def is_share_table(structure, asked, amount, table):
    """Whether any value is a table at which, with the secret's amount, the asked form alone is below 0."""
    n = structure[0]
    if not is_table(table) or table[0] != n:
        return False
    numbers = numbers_by_lot(table)
    numbers[(n,)] = amount
    kept = all([value_by_lot(share_form(structure, name), numbers) >= 0 for name in share_names(n)])
    return kept and value_by_lot(asked, numbers) < 0
