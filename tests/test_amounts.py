"""Amounts in their one form, spreads, sums and differences ([1.1], [1.3])."""

import random
import unittest
from fractions import Fraction
from math import gcd

from tests.checks import ODD, Checked
from toldamounts.amounts import amount_of, is_amount, minus, plus, spread, times
from toldamounts.errors import BadAmount, BadCounts, BadNumber

NOUGHT = (1, ())
PRIMES = [p for p in range(2, 1000) if all(p % q for q in range(2, p))]
GOOD = [
    NOUGHT, (1, ((2, 1),)), (1, ((2, -1),)), (4, ((2, 8), (3, -3))), (1000, ((2, 1),)), (1, ((999983, 1),)), (10 ** 99, ((7, 1),)),
    (6, ((2, 3), (3, 2))), (6, ((2, 3), (3, 2), (5, 6))), (1, ((2, 10 ** 99), (997, -10 ** 99))), (2, ((2, 2), (3, 1))),
]
NO_AMOUNTS = ODD + [
    (2, ()), (0, ()), (-1, ()), (True, ()), ("1", ()), (1, (), ()), (1, []), [1, ()], (1, ((2, 1),), ()),
    (1, ((2, 0),)), (1, ((2, True),)), (1, ((2, None),)), (1, ((2, "1"),)), (1, ([2, 1],)), (1, [(2, 1)]), (1, ((2, 1, 1),)),
    (1, ((2,),)), (1, ((1, 1),)), (1, ((0, 1),)), (1, ((-2, 1),)), (1, ((4, 1),)), (1, ((True, 1),)), (1, (("2", 1),)),
    (1, ((961, 1),)), (1, ((999981, 1),)), (1, ((994009, 1),)), (1, ((1000003, 1),)), (1, ((10 ** 99 + 289, 1),)), (1, (((2,), 1),)),
    (1, ((2, 1), (2, 1))), (1, ((3, 1), (2, 1))), (1, ((2, 1), (2, 2))), (2, ((2, 2),)), (2, ((2, 2), (3, -4))),
    (3, ((2, 3), (3, 6), (5, 9))), (0, ((2, 1),)), (-1, ((2, 1),)), (True, ((2, 1),)), (1, (2, 1)), (1, ((2, 1), ())),
    (1, ((2, 1), None)), ((2, 1),), (10 ** 99, ((2, 10 ** 99),)), None, "(1, ())",
]


def worth(amount):
    """The amount as a dict of primes and fractions, which is unlike for unlike numbers."""
    return {prime: Fraction(factor, amount[0]) for prime, factor in amount[1]}


def added(pairs):
    """The sum of factor times worth."""
    total = {}
    for factor, one in pairs:
        for prime, many in one.items():
            total[prime] = total.get(prime, 0) + factor * many
    return {prime: many for prime, many in total.items() if many}


def logarithm(number):
    """The logarithm of an integer as a dict of primes and fractions."""
    found = {}
    for prime in PRIMES:
        while number % prime == 0:
            found[prime] = found.get(prime, 0) + Fraction(1)
            number //= prime
    if number > 1:
        found[number] = Fraction(1)
    return found


class TestIsAmount(Checked):

    def test_amounts(self):
        for thing in GOOD:
            self.assert_true(is_amount(thing), thing)

    def test_no_amounts(self):
        for thing in NO_AMOUNTS:
            self.assert_false(is_amount(thing), thing)

    def test_all_small_primes_and_no_other_numbers(self):
        for number in range(-3, 1100):
            prime = number > 1 and all(number % q for q in range(2, number))
            self.assertIs(is_amount((1, ((number, 1),))), prime, number)

    def test_primes_below_a_million(self):
        self.assert_true(is_amount((1, ((999961, 1), (999979, -2), (999983, 1)))))
        self.assert_false(is_amount((1, ((999983, 1), (1000003, 1)))))

    def test_by_name(self):
        self.assert_true(is_amount(thing=NOUGHT))


class TestAmountOf(Checked):

    def test_small_numbers(self):
        for number in range(1, 2000):
            amount = amount_of(number)
            self.assert_true(is_amount(amount), number)
            self.assertEqual(worth(amount), logarithm(number))

    def test_ends(self):
        self.assert_same(amount_of(1), NOUGHT)
        self.assert_same(amount_of(1000000), (1, ((2, 6), (5, 6))))
        self.assert_same(amount_of(999983), (1, ((999983, 1),)))
        self.assert_same(amount_of(994009), (1, ((997, 2),)))
        self.assert_same(amount_of(number=999999), (1, ((3, 3), (7, 1), (11, 1), (13, 1), (37, 1))))

    def test_bad_numbers(self):
        for thing in [None, True, False, 0, -1, 1000001, 10 ** 99, "1", [1], (1,), {}, ()]:
            self.assert_thing(BadNumber, thing, amount_of, thing)
            self.assert_thing(BadNumber, thing, amount_of, number=thing)


class TestSpread(Checked):

    def check(self, counts):
        amount = spread(counts)
        total = sum(counts)
        less = [(Fraction(-count, total), logarithm(count)) for count in counts]
        self.assert_true(is_amount(amount), counts)
        self.assertEqual(worth(amount), added([(1, logarithm(total))] + less), counts)
        return amount

    def test_one_count_is_nought(self):
        for count in list(range(1, 30)) + [997, 998, 999]:
            self.assert_same(spread((count,)), NOUGHT)

    def test_more_counts_are_not_nought(self):
        for counts in [(1, 1), (1, 999), (999, 1), (998, 999), (1,) * 40]:
            self.assertNotEqual(spread(counts), NOUGHT)

    def test_equal_counts(self):
        for many in range(1, 41):
            for count in (1, 2, 3, 12, 25):
                self.assert_same(spread((count,) * many), amount_of(many))

    def test_common_factors_and_orders_do_not_matter(self):
        for counts in [(1, 3), (1, 2, 3), (5, 7, 1, 1), (2, 9)]:
            wanted = self.check(counts)
            for factor in (2, 3, 10, 49):
                self.assert_same(spread(tuple(factor * count for count in counts)), wanted)
            self.assert_same(spread(tuple(reversed(counts))), wanted)
            self.assert_same(spread(tuple(sorted(counts))), wanted)

    def test_told_spreads(self):
        self.assert_same(spread((1, 3)), (4, ((2, 8), (3, -3))))
        self.assert_same(spread((1, 2)), (3, ((2, -2), (3, 3))))
        self.assert_same(spread((1, 999)), (1000, ((2, 3000), (3, -2997), (5, 3000), (37, -999))))
        self.assert_same(spread((1, 1, 2)), (2, ((2, 3),)))

    def test_forty_counts(self):
        self.check(tuple(range(1, 41)))
        self.check((25,) * 40)
        self.check((1,) * 39 + (961,))
        self.check(tuple(range(5, 44)) + (30,))

    def test_any_counts(self):
        choose = random.Random(1)
        for _ in range(150):
            many = choose.randint(1, 12)
            self.check(tuple(choose.choice([1, 2, 3, 4, 8, 9, 16, 31, 60, 83]) for _ in range(many)))

    def test_bad_counts(self):
        more = [(0,), (1000,), (-1,), (1, 0), (0, 1), (1, 1000), (True,), (1, True), (1, "1"), (None,), (1,) * 41, [1], [1, 1],
                ((1,),), (1, (1,)), (999,) * 41, "12", 12]
        for thing in [odd for odd in ODD if odd not in [(1,), (1, 2, 3)]] + more:
            self.assert_thing(BadCounts, thing, spread, thing)
            self.assert_thing(BadCounts, thing, spread, counts=thing)

    def test_ends_of_the_limits_are_taken(self):
        self.assert_same(spread((999,)), NOUGHT)
        self.assert_same(spread((1,) * 40), (1, ((2, 3), (5, 1))))


class TestSums(Checked):

    def some(self, seed):
        choose = random.Random(seed)
        found = list(GOOD[:5]) + [amount_of(12), spread((1, 3)), spread((2, 3, 4))]
        for _ in range(25):
            powers = {choose.choice(PRIMES[:6]): choose.choice([-6, -4, -1, 1, 2, 3, 12]) for _ in range(choose.randint(0, 4))}
            bottom = choose.choice([1, 2, 3, 4, 6, 12])
            divisor = gcd(bottom, *powers.values())
            found.append((bottom // divisor, tuple(sorted((p, c // divisor) for p, c in powers.items()))))
        return found

    def test_plus_and_minus(self):
        some = self.some(2)
        for one in some:
            for other in some:
                for call, sign in ((plus, 1), (minus, -1)):
                    result = call(one, other)
                    self.assert_true(is_amount(result))
                    self.assertEqual(worth(result), added([(1, worth(one)), (sign, worth(other))]))

    def test_told_sums(self):
        self.assert_same(plus(amount_of(2), spread((1, 3))), (4, ((2, 12), (3, -3))))
        self.assert_same(minus(amount_of(6), amount_of(3)), (1, ((2, 1),)))
        self.assert_same(plus((2, ((2, 1),)), (2, ((2, 1),))), (1, ((2, 1),)))
        self.assert_same(plus((6, ((2, 1),)), (3, ((2, 1),))), (2, ((2, 1),)))
        self.assert_same(minus((4, ((5, 3),)), (4, ((5, 3),))), NOUGHT)
        self.assert_same(plus(one=amount_of(2), other=amount_of(3)), amount_of(6))
        self.assert_same(minus(one=amount_of(6), other=amount_of(3)), amount_of(2))
        self.assert_same(plus((1, ((999979, 1),)), (1, ((999983, 1),))), (1, ((999979, 1), (999983, 1))))

    def test_times(self):
        for amount in self.some(3):
            for top in (-1000, -7, -2, -1, 0, 1, 2, 3, 12, 1000):
                for bottom in (1, 2, 3, 12, 1000):
                    result = times(amount, top, bottom)
                    self.assert_true(is_amount(result))
                    self.assertEqual(worth(result), added([(Fraction(top, bottom), worth(amount))]))

    def test_told_times(self):
        self.assert_same(times(spread((1, 3)), 2, 1), (2, ((2, 8), (3, -3))))
        self.assert_same(times(amount_of(4), 1, 2), amount_of(2))
        self.assert_same(times(amount_of(4), 0, 1000), NOUGHT)
        self.assert_same(times(amount=amount_of(2), top=-3, bottom=6), (2, ((2, -1),)))

    def test_equal_amounts_are_equal_tuples_whatever_the_way(self):
        self.assert_same(plus(spread((1, 1)), spread((1, 1))), spread((3, 3, 3, 3)))
        self.assert_same(times(spread((1, 2)), 3, 1), minus(times(amount_of(3), 3, 1), amount_of(4)))
        self.assert_same(spread((1, 1, 2)), plus(spread((2, 2)), times(spread((1, 1)), 1, 2)))

    def test_bad_amounts(self):
        for thing in NO_AMOUNTS:
            for call in (plus, minus):
                self.assert_thing(BadAmount, thing, call, thing, NOUGHT)
                self.assert_thing(BadAmount, thing, call, NOUGHT, thing)
                self.assert_thing(BadAmount, thing, call, one=thing, other=NOUGHT)
                self.assert_thing(BadAmount, thing, call, thing, "other")
            self.assert_thing(BadAmount, thing, times, thing, None, None)

    def test_bad_factors(self):
        for thing in [None, True, False, "1", -1001, 1001, 10 ** 99, (1,), [1], {}]:
            self.assert_thing(BadNumber, thing, times, NOUGHT, thing, 1)
            self.assert_thing(BadNumber, thing, times, NOUGHT, thing, "bottom")
            self.assert_thing(BadNumber, thing, times, amount=NOUGHT, top=1, bottom=thing)
        for thing in [0, -1, -1000]:
            self.assert_thing(BadNumber, thing, times, NOUGHT, 1, thing)


if __name__ == "__main__":
    unittest.main()
