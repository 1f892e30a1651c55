"""Amounts: sums of logarithms of primes, divided by an integer, in their one form."""

from math import gcd

from toldamounts.errors import BadAmount, BadCounts, BadNumber
from toldamounts.kinds import are_integers_in, is_ascending, is_integer, is_integer_in, is_tuple_of
from toldamounts.logsums import amount_from, combined, products_of, spread_of
from toldamounts.primes import is_prime, prime_powers

ABOVE_PRIMES = 1000000
MOST_COUNTS = 40
MOST_COUNT = 999
MOST_TOP = 1000
MOST_K = 100


def is_part(thing):
    """Whether any value is a pair of a prime that may stand in an amount and a factor."""
    if not is_tuple_of(thing, 2) or not is_integer(thing[1]) or thing[1] == 0:
        return False
    return is_integer_in(thing[0], 2, ABOVE_PRIMES - 1) and is_prime(thing[0])


def is_amount(thing):
    """Whether any value is an amount."""
    if not is_tuple_of(thing, 2):
        return False
    bottom, parts = thing
    if not is_integer(bottom) or bottom < 1 or not isinstance(parts, tuple):
        return False
    if not all([is_part(part) for part in parts]):
        return False
    divisor = bottom
    for part in parts:
        divisor = gcd(divisor, part[1])
    return divisor == 1 and is_ascending([part[0] for part in parts])


def require_amount(thing):
    """Raises BadAmount with a value that is no amount."""
    if not is_amount(thing):
        raise BadAmount(thing)


def require_number(thing, low, high):
    """Raises BadNumber with a value that is no integer from low to high."""
    if not is_integer_in(thing, low, high):
        raise BadNumber(thing)


def amount_of(number):
    """The logarithm of an integer from 1 to 1,000,000."""
    require_number(number, 1, ABOVE_PRIMES)
    return amount_from(1, prime_powers(number))


def spread(counts):
    """The spread of 1 to 40 counts from 1 to 999."""
    if not are_integers_in(counts, 1, MOST_COUNT) or not 1 <= len(counts) <= MOST_COUNTS:
        raise BadCounts(counts)
    return spread_of(counts)


def plus(one, other):
    """The sum of two amounts."""
    require_amount(one)
    require_amount(other)
    return combined([(1, one), (1, other)])


def minus(one, other):
    """One amount less another one."""
    require_amount(one)
    require_amount(other)
    return combined([(1, one), (-1, other)])


def is_below(one, other):
    """Whether the first amount is less than the second one."""
    return sign_of(minus(one, other)) < 0


def times(amount, top, bottom):
    """An amount times top / bottom."""
    require_amount(amount)
    require_number(top, -MOST_TOP, MOST_TOP)
    require_number(bottom, 1, MOST_TOP)
    powers = {prime: factor * top for prime, factor in amount[1]}
    return amount_from(amount[0] * bottom, powers)


def sign_of(amount):
    """1 for an amount above nought, -1 for one below nought, otherwise 0."""
    require_amount(amount)
    above, below = products_of(amount[1], 1)
    if above == below:
        return 0
    return 1 if above > below else -1


def steps_of(amount, k):
    """The greatest integer m such that m log 2 is at most k times the amount."""
    require_amount(amount)
    require_number(k, 1, MOST_K)
    above, below = products_of(amount[1], k)
    return greatest_power(above, below) // amount[0]


def greatest_power(above, below):
    """The greatest integer e such that 2 ** e is at most above / below."""
    guess = above.bit_length() - below.bit_length()
    if guess >= 0:
        fits = (below << guess) <= above
    else:
        fits = below <= (above << -guess)
    return guess if fits else guess - 1
