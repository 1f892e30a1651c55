"""Sayings that two lots know nothing of one another, what follows from them by steps, and odd worlds."""

from toldamounts.bits import bit_rows
from toldamounts.errors import BadLot, BadNumber, BadSaying, BadSayings
from toldamounts.formsums import lots_within, ordered_lots
from toldamounts.kinds import are_integers_in, is_integer_in, is_lot, is_tuple_of, is_within
from toldamounts.views import joined

FEWEST_THINGS = 2
MOST_THINGS = 5
MOST_SAYINGS = 8
TOLD = ("told",)


def require_things(n):
    """Raises BadNumber with a value that is no number of things that sayings may be about."""
    if not is_integer_in(n, FEWEST_THINGS, MOST_THINGS):
        raise BadNumber(n)


def is_saying_about(n, thing):
    """Whether any value is a saying about n things."""
    if not is_tuple_of(thing, 2) or not all([is_lot(n, lot) and lot != () for lot in thing]):
        return False
    return thing[0] < thing[1] and not any([item in thing[1] for item in thing[0]])


def are_sayings(n, thing):
    """Whether any value is a tuple of at most 8 sayings about n things."""
    if not isinstance(thing, tuple) or len(thing) > MOST_SAYINGS:
        return False
    return all([is_saying_about(n, saying) for saying in thing])


def require_sayings(n, sayings):
    """Raises BadNumber with the number of things, then BadSayings with a value that is no told sayings."""
    require_things(n)
    if not are_sayings(n, sayings):
        raise BadSayings(sayings)


def require_saying_too(n, sayings, saying):
    """Raises the same, then BadSaying with a value that is no saying."""
    require_sayings(n, sayings)
    if not is_saying_about(n, saying):
        raise BadSaying(saying)


def is_saying(n, thing):
    """Whether any value is a saying about n things."""
    require_things(n)
    return is_saying_about(n, thing)


def odd_world(n, lot):
    """The world in which the things of a lot show 0 or 1 with an even sum, and all others 0."""
    require_things(n)
    if not is_lot(n, lot) or len(lot) < 2:
        raise BadLot(lot)
    outcomes = [bits for bits in bit_rows(n) if is_odd_outcome(bits, lot)]
    return n, tuple([(outcome, 1) for outcome in outcomes])


def is_odd_outcome(bits, lot):
    """Whether bits are 0 but for the things of a lot, and have an even sum."""
    return sum(bits) % 2 == 0 and all([bit == 0 or thing in lot for thing, bit in enumerate(bits)])


def saying_of(one, other):
    """The saying of two lots."""
    return (one, other) if one < other else (other, one)


def has_all(saying, less):
    """Whether the two lots of a saying, in some order, have all things of the two lots of another one."""
    one, other = less
    for first, second in (saying, saying[::-1]):
        if is_within(one, first) and is_within(other, second):
            return True
    return False


def sayings_less(saying):
    """All sayings of lots within the two lots of a saying, but for itself."""
    found = []
    for one in lots_within(saying[0])[1:]:
        for other in lots_within(saying[1])[1:]:
            if (one, other) != saying:
                found.append(saying_of(one, other))
    return found


def sayings_more(first, second):
    """The sayings that two of them give at once: of A and B; of A and B together, and C; so of A, and B and C."""
    both = joined(first[0], first[1])
    if both not in second:
        return []
    third = second[1] if second[0] == both else second[0]
    return [saying_of(one, joined(other, third)) for one, other in (first, first[::-1])]


def reasons_from(sayings):
    """A reason for each saying that follows, as a dict; sayings stand in it in the place of positions.

    Each saying stands behind those that its reason names.
    """
    reasons = {saying: TOLD for saying in sayings}
    reached = list(reasons)
    at = 0
    while at < len(reached):
        found = reasons_by(reached[at], reached[:at])
        for saying, reason in found:
            if saying not in reasons:
                reasons[saying] = reason
                reached.append(saying)
        at += 1
    return reasons


def reasons_by(saying, earlier):
    """The pairs (saying, reason) that a saying gives alone, and together with each of the earlier ones."""
    found = [(less, ("less", saying)) for less in sayings_less(saying)]
    for other in earlier:
        for first, second in ((saying, other), (other, saying)):
            found.extend([(more, ("more", first, second)) for more in sayings_more(first, second)])
    return found


def steps_to(saying, reasons):
    """The steps to a saying that follows, with no others than it needs."""
    needed = {saying: True}
    for each in reversed(list(reasons)):
        if each in needed:
            for parent in reasons[each][1:]:
                needed[parent] = True
    order = [each for each in reasons if each in needed]
    places = {each: at for at, each in enumerate(order)}
    steps = []
    for each in order:
        reason = reasons[each]
        steps.append((each, reason[:1] + tuple([places[parent] for parent in reason[1:]])))
    return tuple(steps)


def divides(saying, lot):
    """Whether each thing of a lot is in one of the two lots of a saying, and each of the two has one."""
    one, other = saying
    if not is_within(lot, one + other):
        return False
    return not is_within(lot, one) and not is_within(lot, other)


def is_odd_lot(sayings, saying, lot):
    """Whether a saying divides a lot, and none of the told ones does."""
    return divides(saying, lot) and not any([divides(told, lot) for told in sayings])


def first_odd_lot(n, sayings, saying):
    """The first lot that a saying divides and none of the told ones does; there is one if it does not follow."""
    return [lot for lot in ordered_lots(n) if is_odd_lot(sayings, saying, lot)][0]


def judge_saying(n, sayings, saying):
    """A certificate of whether a saying follows from told ones."""
    require_saying_too(n, sayings, saying)
    reasons = reasons_from(sayings)
    if saying in reasons:
        return ("steps", steps_to(saying, reasons))
    return ("odd", first_odd_lot(n, sayings, saying))


def is_reason(sayings, earlier, saying, thing):
    """Whether any value is a reason for a saying, the earlier steps having been of the earlier sayings."""
    if thing == TOLD:
        return saying in sayings
    if not isinstance(thing, tuple) or not are_integers_in(thing[1:], 0, len(earlier) - 1):
        return False
    if len(thing) == 2 and thing[0] == "less":
        return has_all(earlier[thing[1]], saying)
    if len(thing) == 3 and thing[0] == "more":
        return saying in sayings_more(earlier[thing[1]], earlier[thing[2]])
    return False


def are_steps(n, sayings, thing):
    """Whether any value is steps from told sayings."""
    if not isinstance(thing, tuple) or thing == ():
        return False
    earlier = []
    for step in thing:
        if not is_tuple_of(step, 2) or not is_saying_about(n, step[0]):
            return False
        if not is_reason(sayings, earlier, step[0], step[1]):
            return False
        earlier.append(step[0])
    return True


def saying_holds(n, sayings, saying, thing):
    """Whether any value is a certificate of whether a saying follows from told ones."""
    require_saying_too(n, sayings, saying)
    if not is_tuple_of(thing, 2):
        return False
    if thing[0] == "steps":
        return are_steps(n, sayings, thing[1]) and thing[1][-1][0] == saying
    return thing[0] == "odd" and is_lot(n, thing[1]) and is_odd_lot(sayings, saying, thing[1])


def sayings_from(n, sayings):
    """The ascending tuple of all sayings that follow from told ones."""
    require_sayings(n, sayings)
    return tuple(sorted(reasons_from(sayings)))
