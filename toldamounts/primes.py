"""Primes, and integers as products of primes."""

from math import isqrt


def is_prime(number):
    """Whether an integer is a prime."""
    if number < 2:
        return False
    return all([number % divisor != 0 for divisor in range(2, isqrt(number) + 1)])


def prime_powers(number):
    """How often each prime divides an integer above 0, as a dict."""
    powers = {}
    divisor = 2
    while divisor * divisor <= number:
        while number % divisor == 0:
            powers[divisor] = powers.get(divisor, 0) + 1
            number = number // divisor
        divisor += 1
    if number > 1:
        powers[number] = powers.get(number, 0) + 1
    return powers
