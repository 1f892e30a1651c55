"""Points seen from sides: how many they can be, by how many their sides have."""

from toldamounts.errors import BadNumber, BadPoints, BadWeights
from toldamounts.formsums import ordered_lots
from toldamounts.kinds import are_integers_in, is_ascending, is_integer_in, is_lot, is_tuple_of
from toldamounts.logsums import power
from toldamounts.views import shown

FEWEST_DIRECTIONS = 2
MOST_DIRECTIONS = 4
MOST_POINTS = 40
MOST_SHOWN = 999
MOST_WEIGHT = 20
COVER = ("cover",)


def is_points(thing):
    """Whether any value is points."""
    if not isinstance(thing, tuple) or not 1 <= len(thing) <= MOST_POINTS:
        return False
    if not all([are_integers_in(point, 0, MOST_SHOWN) for point in thing]):
        return False
    n = len(thing[0])
    if not FEWEST_DIRECTIONS <= n <= MOST_DIRECTIONS:
        return False
    return all([len(point) == n for point in thing]) and is_ascending(thing)


def require_points(thing):
    """Raises BadPoints with a value that is no points."""
    if not is_points(thing):
        raise BadPoints(thing)


def is_weight(n, thing):
    """Whether any value is a pair of a lot of n directions, other than (), and an integer from 1 to 20."""
    if not is_tuple_of(thing, 2) or not is_lot(n, thing[0]) or thing[0] == ():
        return False
    return is_integer_in(thing[1], 1, MOST_WEIGHT)


def are_weights(n, thing):
    """Whether any value is weights for n directions."""
    if not is_tuple_of(thing, 2) or not is_integer_in(thing[0], 1, MOST_WEIGHT):
        return False
    pairs = thing[1]
    if not isinstance(pairs, tuple) or not all([is_weight(n, pair) for pair in pairs]):
        return False
    return is_ascending([pair[0] for pair in pairs])


def size_of_side(points, lot):
    """How many the side of a lot has."""
    return len(set([shown(point, lot) for point in points]))


def sizes_of(points):
    """The table of the sizes of points."""
    require_points(points)
    n = len(points[0])
    return n, tuple([size_of_side(points, lot) for lot in ordered_lots(n)])


def keeps_weights(points, weights):
    """Whether the number of points is bounded by the sizes of their sides as weights tell."""
    require_points(points)
    if not are_weights(len(points[0]), weights):
        raise BadWeights(weights)
    m, pairs = weights
    bound = 1
    for lot, k in pairs:
        bound = bound * power(size_of_side(points, lot), k)
    return power(len(points), m) <= bound


def require_weights(n, weights):
    """Raises BadNumber with a value that is no number of directions, then BadWeights with one that is no weights."""
    if not is_integer_in(n, FEWEST_DIRECTIONS, MOST_DIRECTIONS):
        raise BadNumber(n)
    if not are_weights(n, weights):
        raise BadWeights(weights)


def is_short(weights, i):
    """Whether the integers of the lots that have a direction add up to too little."""
    m, pairs = weights
    return sum([k for lot, k in pairs if i in lot]) < m


def judge_cover(n, weights):
    """A certificate of whether weights cover each direction."""
    require_weights(n, weights)
    for i in range(n):
        if is_short(weights, i):
            return ("short", i)
    return COVER


def cover_holds(n, weights, thing):
    """Whether any value is a certificate of whether weights cover each direction."""
    require_weights(n, weights)
    if thing == COVER:
        return not any([is_short(weights, i) for i in range(n)])
    if not is_tuple_of(thing, 2) or thing[0] != "short":
        return False
    return is_integer_in(thing[1], 0, n - 1) and is_short(weights, thing[1])


def points_world(points):
    """The world that has a row of the count 1 for each point."""
    require_points(points)
    return len(points[0]), tuple([(point, 1) for point in points])
