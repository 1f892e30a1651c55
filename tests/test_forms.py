"""Forms and tables, sums, multiples, renamings and values ([3.1])."""

import random
from itertools import combinations, permutations, product

from tests.checks import ODD, Checked
from tests.test_worlds import EVEN, NO_WORLDS, ONE, PARTS, SIX, UNEVEN, lots_of_things, no_lots, some_worlds, union
from toldamounts.amounts import plus, times
from toldamounts.errors import BadForm, BadLot, BadNumber, BadRenaming, BadTable, BadWorld, OtherSize
from toldamounts.forms import (
    given_form, is_form, is_table, led_form, lots_of, plus_forms, shared_form, times_form, value_at, value_in,
)
from toldamounts.worlds import given_amount, lot_amount, shared_amount

FORM = (2, (((0,), 3), ((0, 1), -2), ((1,), 1)))
ALL_FIVE = tuple(sorted(lot for size in range(1, 6) for lot in combinations(range(5), size)))
GREATEST = (5, tuple((lot, 10 ** 99 - at) for at, lot in enumerate(ALL_FIVE)))
GOOD_FORMS = [(1, ()), (5, ()), (1, (((0,), -1),)), FORM, GREATEST, (3, (((2,), 1),)), (2, (((0,), 1), ((0, 1), 1)))]
NO_FORMS = ODD + [
    (0, ()), (6, ()), (-1, ()), (True, ()), (None, ()), ("1", ()), [1, ()], (1, []), (1, (), ()), (1,), ((), 1), (10 ** 99, ()),
    (2, ((0,), 1)), (2, (((0,), 0),)), (2, (((0,), True),)), (2, (((0,), False),)), (2, (((0,), None),)), (2, (((0,), "1"),)),
    (2, (((0,), (1,)),)), (2, (((), 1),)), (2, (((2,), 1),)), (2, (((-1,), 1),)), (2, (((1, 0), 1),)), (2, (((0, 0), 1),)),
    (2, (((True,), 1),)), (2, (((0, True), 1),)), (2, (([0], 1),)), (2, ([(0,), 1],)), (2, [((0,), 1)]), (2, (((0,),),)),
    (2, (((0,), 1, 1),)), (2, (((0,), 1), ((0,), 1))), (2, (((0,), 1), ((0,), 2))), (2, (((1,), 1), ((0,), 1))),
    (2, (((0, 1), 1), ((0,), 1))), (2, (((1,), 1), ((0, 1), 1))), (2, (((0,), 1), None)), (2, (((0,), 1), ())), (2, ((0, 1),)),
    (2, {(0,): 1}), (2, "forms"), (2, ((("0",), 1),)), (2, (("0", 1),)), (5, (((5,), 1),)), (1, (((1,), 1),)), (1, (((0, 1), 1),)),
]
GOOD_TABLES = [(1, (0,)), (1, (-5,)), (2, (1, 2, 1)), (2, (10 ** 99, -1, 0)), (3, (0,) * 7), (4, tuple(range(15))), (5, (1,) * 31)]
NO_TABLES = ODD + [
    (0, ()), (6, (0,) * 63), (True, (0,)), (None, (0,)), [1, (0,)], (1, [0]), (1, ()), (1, (0, 0)), (2, (0, 0)), (2, (0,) * 4),
    (2, (0, True, 0)), (2, (False, 0, 0)), (2, (0, None, 0)), (2, (0, "0", 0)), (2, (0, (0,), 0)), (2, (0, 0, 0), ()), (2,),
    (3, (0,) * 6), (3, (0,) * 8), (4, (0,) * 14), (5, (0,) * 30), (5, (0,) * 32), (2, {0: 0}), (2, "000"), ("2", (0, 0, 0)), (-1, ()),
]


def all_lots(n):
    return [lot for lot in ALL_FIVE if lot == () or lot[-1] < n]


def some_forms(n, seed, many, most=9):
    """Forms of n things, that of no terms first."""
    choose = random.Random(seed)
    found = [(n, ())]
    for _ in range(many):
        lots = [lot for lot in all_lots(n) if choose.random() < 0.6]
        found.append((n, tuple((lot, choose.choice([-1, 1]) * choose.randint(1, most)) for lot in lots)))
    return found


def added(*pairs):
    """The terms of the sum of factor times form, worked out by hand."""
    factors = {}
    for factor, form in pairs:
        for lot, many in form[1]:
            factors[lot] = factors.get(lot, 0) + factor * many
    return tuple(sorted((lot, many) for lot, many in factors.items() if many and lot))


class TestIsFormAndIsTable(Checked):

    def test_forms(self):
        for thing in GOOD_FORMS + some_forms(4, 1, 10):
            self.assert_true(is_form(thing), thing)
        self.assert_true(is_form(thing=FORM))

    def test_no_forms(self):
        for thing in NO_FORMS:
            self.assert_false(is_form(thing), thing)

    def test_each_number_of_things(self):
        for n in range(-1, 8):
            self.assertIs(is_form((n, ())), 1 <= n <= 5)
            self.assertIs(is_form((n, (((n - 1,), 1),))), 1 <= n <= 5)
            self.assert_false(is_form((n, (((n,), 1),))))
            self.assertIs(is_table((n, (0,) * max(0, 2 ** max(n, 0) - 1))), 1 <= n <= 5)

    def test_tables(self):
        for thing in GOOD_TABLES:
            self.assert_true(is_table(thing), thing)
        self.assert_true(is_table(thing=(1, (0,))))

    def test_no_tables(self):
        for thing in NO_TABLES:
            self.assert_false(is_table(thing), thing)


class TestLotsOf(Checked):

    def test_told_lots(self):
        self.assert_same(lots_of(1), ((0,),))
        self.assert_same(lots_of(2), ((0,), (0, 1), (1,)))
        self.assert_same(lots_of(n=3), ((0,), (0, 1), (0, 1, 2), (0, 2), (1,), (1, 2), (2,)))

    def test_all_sizes(self):
        for n in range(1, 6):
            self.assert_same(lots_of(n), tuple(all_lots(n)))
            self.assertEqual(len(lots_of(n)), 2 ** n - 1)

    def test_bad_numbers(self):
        for thing in [None, True, 0, 6, -1, 10 ** 99, "1", (1,), [1], {}, ()]:
            self.assert_thing(BadNumber, thing, lots_of, thing)
            self.assert_thing(BadNumber, thing, lots_of, n=thing)


class TestSumsOfForms(Checked):

    def test_told_sums(self):
        self.assert_same(plus_forms((2, (((0,), 1),)), (2, (((0,), -1), ((1,), 2)))), (2, (((1,), 2),)))
        self.assert_same(plus_forms(one=(1, ()), other=(1, ())), (1, ()))
        self.assert_same(plus_forms(FORM, times_form(FORM, -1)), (2, ()))
        self.assert_same(times_form(form=FORM, k=0), (2, ()))
        self.assert_same(times_form(FORM, -10 ** 60), (2, (((0,), -3 * 10 ** 60), ((0, 1), 2 * 10 ** 60), ((1,), -10 ** 60))))

    def test_sums_and_multiples(self):
        for n in range(1, 6):
            some = some_forms(n, n, 7)
            for one, other in product(some, repeat=2):
                self.assert_same(plus_forms(one, other), (n, added((1, one), (1, other))))
                self.assert_true(is_form(plus_forms(one, other)))
            for one, k in product(some, [-1000, -2, -1, 0, 1, 2, 3, 1000]):
                self.assert_same(times_form(one, k), (n, added((k, one))))

    def test_bad_forms(self):
        for thing in NO_FORMS:
            self.assert_thing(BadForm, thing, plus_forms, thing, FORM)
            self.assert_thing(BadForm, thing, plus_forms, FORM, thing)
            self.assert_thing(BadForm, thing, plus_forms, one=thing, other="other")
            self.assert_thing(BadForm, thing, plus_forms, one=(1, ()), other=thing)
            self.assert_thing(BadForm, thing, times_form, thing, 1)
            self.assert_thing(BadForm, thing, times_form, form=thing, k=None)

    def test_other_sizes(self):
        for n, m in product(range(1, 6), repeat=2):
            if n != m:
                self.assert_thing(OtherSize, (m, (((0,), 1),)), plus_forms, (n, ()), (m, (((0,), 1),)))

    def test_bad_factors(self):
        for thing in [None, True, False, "1", (1,), [1], {}, ()]:
            self.assert_thing(BadNumber, thing, times_form, FORM, thing)
            self.assert_thing(BadNumber, thing, times_form, form=FORM, k=thing)


class TestLedForms(Checked):

    def test_told_forms(self):
        form = (3, (((0,), 1), ((0, 1), 2), ((2,), 3)))
        self.assert_same(led_form(form, (1, 2, 0)), (3, (((0,), 3), ((1,), 1), ((1, 2), 2))))
        self.assert_same(led_form(form=form, renaming=(2, 0, 1)), (3, (((0, 2), 2), ((1,), 3), ((2,), 1))))
        self.assert_same(led_form((1, (((0,), 5),)), (0,)), (1, (((0,), 5),)))

    def test_all_renamings(self):
        for n in range(1, 6):
            for form in some_forms(n, 20 + n, 3):
                for renaming in permutations(range(n)):
                    wanted = sorted((tuple(sorted(renaming[i] for i in lot)), factor) for lot, factor in form[1])
                    self.assert_same(led_form(form, renaming), (n, tuple(wanted)))

    def test_bad_forms_and_renamings(self):
        for thing in NO_FORMS:
            self.assert_thing(BadForm, thing, led_form, thing, (0, 1))
            self.assert_thing(BadForm, thing, led_form, form=thing, renaming=None)
        for thing in ODD + [(0,), (0, 0), (1, 2), (0, 2), (0, 1, 2), [0, 1], (False, 1), (0, True), (-1, 0), ("0", "1"), "01", (0, None)]:
            self.assert_thing(BadRenaming, thing, led_form, FORM, thing)
            self.assert_thing(BadRenaming, thing, led_form, form=FORM, renaming=thing)


class TestSharedAndGivenForms(Checked):

    def test_told_forms(self):
        self.assert_same(shared_form(2, (0,), (1,), ()), (2, (((0,), 1), ((0, 1), -1), ((1,), 1))))
        self.assert_same(given_form(3, (2,), (0, 1)), (3, (((0, 1), -1), ((0, 1, 2), 1))))
        self.assert_same(shared_form(n=1, one=(0,), other=(0,), given=()), (1, (((0,), 1),)))
        self.assert_same(shared_form(3, (0, 1), (1, 2), (1,)), (3, (((0, 1), 1), ((0, 1, 2), -1), ((1,), -1), ((1, 2), 1))))
        self.assert_same(shared_form(3, (0,), (1,), (0,)), (3, ()))
        self.assert_same(shared_form(3, (), (1,), (0,)), (3, ()))
        self.assert_same(given_form(n=4, one=(), given=(0, 1)), (4, ()))
        self.assert_same(given_form(4, (0, 3), ()), (4, (((0, 3), 1),)))
        self.assert_same(given_form(4, (0, 3), (0, 1)), (4, (((0, 1), -1), ((0, 1, 3), 1))))

    def test_all_lots(self):
        for n in range(1, 4):
            lots = lots_of_things(n)
            for one, other, given in product(lots, repeat=3):
                terms = [(1, (n, ((union(one, given), 1),))), (1, (n, ((union(other, given), 1),))),
                         (-1, (n, ((union(one, other, given), 1),))), (-1, (n, ((given, 1),)))]
                self.assert_same(shared_form(n, one, other, given), (n, added(*terms)))
                self.assert_same(given_form(n, one, given), (n, added(terms[0], terms[3])))

    def test_their_values_in_worlds(self):
        for world in [EVEN, UNEVEN, ONE] + [world for world in some_worlds(31, 6) if world[0] == 2]:
            n = world[0]
            for one, other, given in product(lots_of_things(n), repeat=3):
                self.assert_same(value_in(shared_form(n, one, other, given), world), shared_amount(world, one, other, given))
                self.assert_same(value_in(given_form(n, one, given), world), given_amount(world, one, given))

    def test_five_things(self):
        self.assert_same(shared_form(5, (0, 4), (3,), (1, 2)), (5, (((0, 1, 2, 3, 4), -1), ((0, 1, 2, 4), 1), ((1, 2), -1), ((1, 2, 3), 1))))

    def test_bad_numbers_and_lots(self):
        for thing in [None, True, 0, 6, -1, 10 ** 99, "1", (1,), [1], {}]:
            self.assert_thing(BadNumber, thing, shared_form, thing, (0,), (0,), ())
            self.assert_thing(BadNumber, thing, shared_form, n=thing, one=None, other=None, given=None)
            self.assert_thing(BadNumber, thing, given_form, thing, (0,), ())
            self.assert_thing(BadNumber, thing, given_form, n=thing, one=None, given=None)
        for n in range(1, 6):
            for thing in [no for no in no_lots(n) if not (n == 4 and no == (1, 2, 3))]:
                self.assert_thing(BadLot, thing, shared_form, n, thing, "other", "given")
                self.assert_thing(BadLot, thing, shared_form, n, (0,), thing, "given")
                self.assert_thing(BadLot, thing, shared_form, n=n, one=(0,), other=(), given=thing)
                self.assert_thing(BadLot, thing, given_form, n, thing, "given")
                self.assert_thing(BadLot, thing, given_form, n=n, one=(0,), given=thing)


class TestValues(Checked):

    def test_told_values(self):
        self.assert_same(value_at((2, (((0,), 1), ((0, 1), -3))), (2, (1, 2, 1))), -5)
        self.assert_same(value_at(form=(1, (((0,), -7),)), table=(1, (6,))), -42)
        self.assert_same(value_at((3, ()), (3, (1,) * 7)), 0)
        self.assert_same(value_in(shared_form(3, (0,), (1,), (2,)), EVEN), (1, ((2, 1),)))
        self.assert_same(value_in(form=(3, ()), world=EVEN), (1, ()))
        self.assert_same(value_in((1, (((0,), 20),)), (1, (((0,), 1), ((1,), 3)))), (1, ((2, 40), (3, -15))))
        self.assert_same(value_in((2, (((0,), -2), ((1,), 3))), PARTS), (2, ((2, 3),)))

    def test_values_at_tables(self):
        choose = random.Random(6)
        for n in range(1, 6):
            lots = all_lots(n)
            for form in some_forms(n, 40 + n, 12, 1000):
                numbers = tuple(choose.randint(-1000, 1000) for _ in lots)
                wanted = sum(factor * numbers[lots.index(lot)] for lot, factor in form[1])
                self.assert_same(value_at(form, (n, numbers)), wanted)

    def test_each_lot_has_its_own_number(self):
        for n in range(1, 6):
            table = (n, tuple(10 ** at for at in range(2 ** n - 1)))
            for at, lot in enumerate(all_lots(n)):
                self.assert_same(value_at((n, ((lot, 3),)), table), 3 * 10 ** at)

    def test_values_in_worlds(self):
        for world in [EVEN, UNEVEN, PARTS, ONE, (5, tuple((outcome[:5], count) for outcome, count in SIX[1]))] + some_worlds(32, 8):
            for form in some_forms(world[0], 50, 5, 20):
                total = (1, ())
                for lot, factor in form[1]:
                    total = plus(total, times(lot_amount(world, lot), factor, 1))
                self.assert_same(value_in(form, world), total)

    def test_bad_forms(self):
        for thing in NO_FORMS:
            self.assert_thing(BadForm, thing, value_at, thing, (2, (0, 0, 0)))
            self.assert_thing(BadForm, thing, value_at, form=thing, table="table")
            self.assert_thing(BadForm, thing, value_in, thing, UNEVEN)
            self.assert_thing(BadForm, thing, value_in, form=thing, world="world")

    def test_bad_tables(self):
        for thing in NO_TABLES + [table for table in GOOD_TABLES if table[0] != 2]:
            self.assert_thing(BadTable, thing, value_at, FORM, thing)
            self.assert_thing(BadTable, thing, value_at, form=FORM, table=thing)

    def test_bad_worlds_and_other_sizes(self):
        for thing in NO_WORLDS:
            self.assert_thing(BadWorld, thing, value_in, FORM, thing)
            self.assert_thing(BadWorld, thing, value_in, form=FORM, world=thing)
        for world in (EVEN, ONE, SIX):
            self.assert_thing(OtherSize, world, value_in, FORM, world)
        self.assert_thing(OtherSize, SIX, value_in, (5, ()), SIX)
