"""Which amount is greater, the bounds of spreads, and steps ([1.2], [1.3], [1.4])."""

import random

from tests.checks import Checked
from tests.test_amounts import NO_AMOUNTS
from toldamounts.amounts import amount_of, is_below, minus, plus, sign_of, spread, steps_of, times
from toldamounts.errors import BadAmount, BadNumber

NOUGHT = (1, ())
# The pairs (c, b) for which 3 ** c comes ever nearer to 2 ** b.
NEAR = [(1, 1), (1, 2), (2, 3), (5, 8), (12, 19), (41, 65), (53, 84), (306, 485), (665, 1054)]


def products(amount, k=1):
    """The two products of [1.2], for the amount times k."""
    above = below = 1
    for prime, factor in amount[1]:
        if factor > 0:
            above *= prime ** (k * factor)
        else:
            below *= prime ** (-k * factor)
    return above, below


def sign_by_hand(amount):
    above, below = products(amount)
    return (above > below) - (above < below)


def size_of(amount):
    """What the limits of part 1 bound by 20,000."""
    return sum(abs(factor) * prime.bit_length() for prime, factor in amount[1])


class TestSigns(Checked):

    def test_told_signs(self):
        self.assert_same(sign_of(NOUGHT), 0)
        self.assert_same(sign_of((1, ((2, 1),))), 1)
        self.assert_same(sign_of((7, ((2, -1),))), -1)
        self.assert_same(sign_of((1, ((2, 8), (3, -5)))), 1)
        self.assert_same(sign_of((1, ((2, -8), (3, 5)))), -1)
        self.assert_same(sign_of((1000, ((2, 8), (3, -5)))), 1)
        self.assert_same(sign_of((1, ((2, 1), (3, 1), (5, -1)))), 1)
        self.assert_same(sign_of((1, ((2, 4), (3, -1), (5, -1)))), 1)
        self.assert_same(sign_of((1, ((2, 1), (3, 1), (7, -1)))), -1)
        self.assert_same(sign_of(amount=(1, ((997, 1),))), 1)

    def test_powers_that_are_near_to_each_other(self):
        for threes, twos in NEAR:
            for amount in [(1, ((2, twos), (3, -threes))), (1, ((2, -twos), (3, threes)))]:
                self.assert_same(sign_of(amount), sign_by_hand(amount))

    def test_near_powers_at_the_limit(self):
        for twos, threes in [(5755, 3631), (5839, 3684), (6025, 3801), (6060, 3823)]:
            for sign in (1, -1):
                amount = (1000, ((2, sign * twos), (3, -sign * threes)))
                self.assertTrue(18000 < size_of(amount) <= 20000)
                self.assert_same(sign_of(amount), sign_by_hand(amount))

    def test_many_primes_that_nearly_balance(self):
        choose = random.Random(4)
        primes = [p for p in range(2, 1000) if all(p % q for q in range(2, p))]
        signs = {1: 0, -1: 0}
        for _ in range(60):
            few = sorted(choose.sample(primes[1:], 6))
            parts = {prime: choose.choice([-1, 1]) * choose.randint(1, 160) for prime in few}
            above, below = products((1, tuple(sorted(parts.items()))))
            twos = below.bit_length() - above.bit_length() + choose.choice([-1, 0, 1])
            if twos:
                parts[2] = twos
            amount = (1, tuple(sorted(parts.items())))
            self.assertLess(size_of(amount), 20000)
            self.assert_same(sign_of(amount), sign_by_hand(amount))
            signs[sign_by_hand(amount)] += 1
        self.assertGreater(min(signs.values()), 10)

    def test_neighbours(self):
        for number in range(1, 200):
            low, high = amount_of(number), amount_of(number + 1)
            self.assert_same(sign_of(minus(high, low)), 1)
            self.assert_same(sign_of(minus(low, high)), -1)
            self.assert_same(sign_of(minus(low, low)), 0)

    def test_bad_amounts(self):
        for thing in NO_AMOUNTS:
            self.assert_thing(BadAmount, thing, sign_of, thing)
            self.assert_thing(BadAmount, thing, sign_of, amount=thing)


class TestBelow(Checked):

    def test_told_comparisons(self):
        self.assert_true(is_below(amount_of(243), amount_of(256)))
        self.assert_false(is_below(amount_of(256), amount_of(243)))
        self.assert_false(is_below(amount_of(256), amount_of(256)))
        self.assert_false(is_below(NOUGHT, NOUGHT))
        self.assert_true(is_below(one=(1, ((2, -1),)), other=NOUGHT))
        self.assert_true(is_below((2, ((3, 1),)), (1, ((2, 1),))))
        self.assert_false(is_below((1, ((2, 1),)), (2, ((3, 1),))))

    def test_it_is_the_order_of_numbers(self):
        for one in range(1, 60):
            for other in range(1, 60):
                self.assertIs(is_below(amount_of(one), amount_of(other)), one < other)

    def test_roots_and_spreads(self):
        for threes, twos in NEAR:
            one = times((1, ((2, 1),)), twos, 1000) if twos <= 1000 else (threes, ((2, twos),))
            other = times((1, ((3, 1),)), threes, 1000) if twos <= 1000 else (1, ((3, 1),))
            self.assertIs(is_below(one, other), 2 ** twos < 3 ** threes)
            self.assertIs(is_below(other, one), 3 ** threes < 2 ** twos)

    def test_bad_amounts(self):
        for thing in NO_AMOUNTS:
            self.assert_thing(BadAmount, thing, is_below, thing, "other")
            self.assert_thing(BadAmount, thing, is_below, NOUGHT, thing)
            self.assert_thing(BadAmount, thing, is_below, one=NOUGHT, other=thing)


class TestBoundsOfSpreads(Checked):

    def test_between_nought_and_the_logarithm_of_how_many(self):
        choose = random.Random(5)
        for _ in range(60):
            counts = tuple(choose.randint(1, 9) for _ in range(choose.randint(2, 10)))
            amount, most = spread(counts), amount_of(len(counts))
            self.assert_same(sign_of(amount), 1)
            if len(set(counts)) == 1:
                self.assert_same(amount, most)
            else:
                self.assert_true(is_below(amount, most))

    def test_nearly_equal_counts(self):
        for count in (1, 2, 10, 45, 49):
            for many in (2, 3, 7, 10):
                counts = (count,) * (many - 1) + (count + 1,)
                self.assert_true(is_below(spread(counts), amount_of(many)), counts)

    def test_finer_counts_have_more(self):
        self.assert_true(is_below(spread((1, 3)), spread((2, 2))))
        self.assert_true(is_below(spread((4, 4)), spread((4, 3, 1))))


class TestSteps(Checked):

    def check(self, amount, k):
        """2 ** (m d) is at most the k-th power of above / below, and 2 ** ((m + 1) d) is greater."""
        found = steps_of(amount, k)
        self.assertIs(found.__class__, int)
        above, below = products(amount, k)

        def at_most(m):
            twos = m * amount[0]
            return below * 2 ** twos <= above if twos >= 0 else below <= above * 2 ** -twos
        self.assertTrue(at_most(found) and not at_most(found + 1), (amount, k, found))

    def test_told_steps(self):
        self.assert_same(steps_of(amount_of(3), 10), 15)
        self.assert_same(steps_of(spread((1, 3)), 4), 3)
        self.assert_same(steps_of(NOUGHT, 1), 0)
        self.assert_same(steps_of(NOUGHT, 100), 0)
        self.assert_same(steps_of((1, ((2, 1),)), 100), 100)
        self.assert_same(steps_of((1, ((2, -1),)), 100), -100)
        self.assert_same(steps_of((2, ((2, 1),)), 1), 0)
        self.assert_same(steps_of((2, ((2, -1),)), 1), -1)
        self.assert_same(steps_of((2, ((2, 1),)), 3), 1)
        self.assert_same(steps_of((2, ((2, -1),)), 3), -2)
        self.assert_same(steps_of((1, ((3, -1),)), 1), -2)
        self.assert_same(steps_of((1000, ((3, -1),)), 1), -1)
        self.assert_same(steps_of(amount=amount_of(1024), k=7), 70)

    def test_every_k(self):
        for amount in [amount_of(3), amount_of(1), amount_of(4), spread((1, 3)), minus(amount_of(5), amount_of(7)),
                       (7, ((2, -3), (5, 1))), (12, ((2, 5), (11, -1), (13, -1)))]:
            for k in range(1, 101):
                self.check(amount, k)

    def test_just_at_a_power_of_two(self):
        for threes, twos in NEAR[:7]:
            for sign in (1, -1):
                self.check((1, ((2, sign * twos), (3, -sign * threes))), 1)
                self.check((1, ((3, sign * threes),)), 1)
                self.check((1, ((2, sign),)), twos)
                self.check((1, ((3, sign * threes),)), 2)

    def test_great_amounts(self):
        self.check((1, ((997, 20),)), 100)
        self.check((1, ((997, -20),)), 100)
        self.check((1000, ((2, 9999),)), 1)
        self.check((999, ((2, -5000), (3, 5000))), 1)
        self.check(plus(spread(tuple(range(1, 41))), NOUGHT), 1)

    def test_bad_amounts_and_then_bad_numbers(self):
        for thing in NO_AMOUNTS:
            self.assert_thing(BadAmount, thing, steps_of, thing, 1)
            self.assert_thing(BadAmount, thing, steps_of, thing, None)
        for thing in [None, True, False, 0, -1, 101, 10 ** 99, "1", (1,), [1], {}]:
            self.assert_thing(BadNumber, thing, steps_of, NOUGHT, thing)
            self.assert_thing(BadNumber, thing, steps_of, amount=amount_of(3), k=thing)
