"""Sums of logarithms that are known to be right, and so are not looked at again."""

from math import gcd, lcm

from toldamounts.primes import prime_powers


def amount_from(bottom, powers):
    """The amount of a dict of primes and their factors, divided by an integer above 0."""
    divisor = bottom
    for factor in powers.values():
        divisor = gcd(divisor, factor)
    parts = [(prime, factor // divisor) for prime, factor in powers.items() if factor != 0]
    return bottom // divisor, tuple(sorted(parts))


def logs_added(pairs):
    """The factors of the primes in the sum of factor times log number over all pairs (factor, number), as a dict."""
    powers = {}
    for factor, number in pairs:
        found = prime_powers(number)
        for prime, many in found.items():
            powers[prime] = powers.get(prime, 0) + many * factor
    return powers


def spread_of(counts):
    """The spread of counts."""
    total = sum(counts)
    return amount_from(total, logs_added([(total, total)] + [(-count, count) for count in counts]))


def combined(pairs):
    """The amount that is the sum of factor times amount over all pairs (factor, amount)."""
    bottom = 1
    for _, amount in pairs:
        bottom = lcm(bottom, amount[0])
    powers = {}
    for factor, amount in pairs:
        stretch = factor * (bottom // amount[0])
        for prime, many in amount[1]:
            powers[prime] = powers.get(prime, 0) + many * stretch
    return amount_from(bottom, powers)


def power(base, exponent):
    """base to the power of an exponent that is not below 0."""
    result = 1
    while exponent > 0:
        if exponent % 2 == 1:
            result = result * base
        base = base * base
        exponent = exponent // 2
    return result


def products_of(parts, k):
    """The product of p ** (k c) over the pairs with c above 0, and of p ** (-k c) over the others."""
    above = 1
    below = 1
    for prime, factor in parts:
        if factor > 0:
            above = above * power(prime, k * factor)
        else:
            below = below * power(prime, -k * factor)
    return above, below
