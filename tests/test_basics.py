"""Basic names, basic forms and kept tables ([3.2])."""

import random
from itertools import combinations

from tests.checks import ODD, Checked
from tests.test_forms import NO_TABLES, all_lots
from tests.test_worlds import EVEN, PARTS, UNEVEN, some_worlds
from toldamounts.amounts import sign_of
from toldamounts.basics import basic_form, basic_names, is_kept
from toldamounts.errors import BadName, BadNumber
from toldamounts.forms import is_form, value_in
from toldamounts.weighing import weigh

EVEN_TABLE = (3, (1, 2, 2, 2, 1, 2, 1))
NO_NAMES = ODD + [
    ("alone",), ("alone", -1), ("alone", 3), ("alone", True), ("alone", False), ("alone", None), ("alone", "0"), ("alone", (0,)), ["alone", 0],
    ("alone", 0, 1), ("Alone", 0), ("alone", 10 ** 99), (0, "alone"), ("shared", 0), ("shared", 0, 1), ("shared", 0, 1, (), ()), ("shared",),
    ("shared", 1, 0, ()), ("shared", 0, 0, ()), ("shared", 0, 3, ()), ("shared", -1, 0, ()), ("shared", False, 1, ()), ("shared", 0, True, ()),
    ("shared", 0, 1, (0,)), ("shared", 0, 1, (1,)), ("shared", 0, 1, (3,)), ("shared", 0, 1, (2, 2)), ("shared", 0, 1, [2]), ("shared", 0, 1, [()]),
    ("shared", 0, 1, 2), ("shared", 0, 1, None), ("shared", 0, 2, (True,)), ("shared", 0, 1, (0, 2)), ("shared", 0, 1, (1, 2)), ("shared", 0, 1, []),
    ["shared", 0, 1, ()], ("shared", "0", "1", ()), ("shared", None, 1, ()), ("alone", 0, 1, ()), ("four", 0, 1), ("apart", 0, 1, ()),
    ("shared", 0, 1, ("2",)), ("shared", 0, 1, ((2,),)), ("tells", (0,), 1), ("shared", (0,), (1,), ()), ("shared", 0, 1, {}), (["alone"], 0),
]


def names_by_hand(n):
    """All basic names of n things, in no order."""
    found = [("alone", i) for i in range(n)]
    for i, j in combinations(range(n), 2):
        others = [k for k in range(n) if k not in (i, j)]
        found += [("shared", i, j, lot) for size in range(n - 1) for lot in combinations(others, size)]
    return found


def basic_by_hand(n, name):
    """The factors of a basic form, lot by lot, as a dict."""
    factors = {}
    if name[0] == "alone":
        told = [(set(range(n)), 1), (set(range(n)) - {name[1]}, -1)]
    else:
        i, j, lot = name[1], name[2], set(name[3])
        told = [(lot | {i}, 1), (lot | {j}, 1), (lot | {i, j}, -1), (lot, -1)]
    for lot, factor in told:
        if lot:
            factors[tuple(sorted(lot))] = factor
    return factors


def is_kept_by_hand(n, numbers):
    number = dict(zip(all_lots(n), numbers))
    return all(sum(factor * number[lot] for lot, factor in basic_by_hand(n, name).items()) >= 0 for name in names_by_hand(n))


class TestBasicNamesAndForms(Checked):

    def test_told_names(self):
        self.assert_same(basic_names(1), (("alone", 0),))
        self.assert_same(basic_names(2), (("alone", 0), ("alone", 1), ("shared", 0, 1, ())))
        self.assert_same(basic_names(n=3), (
            ("alone", 0), ("alone", 1), ("alone", 2), ("shared", 0, 1, ()), ("shared", 0, 1, (2,)), ("shared", 0, 2, ()),
            ("shared", 0, 2, (1,)), ("shared", 1, 2, ()), ("shared", 1, 2, (0,))))

    def test_all_names(self):
        for n, many in zip(range(1, 6), [1, 3, 9, 28, 85]):
            self.assert_same(basic_names(n), tuple(sorted(names_by_hand(n))))
            self.assertEqual(len(basic_names(n)), many)

    def test_told_forms(self):
        self.assert_same(basic_form(1, ("alone", 0)), (1, (((0,), 1),)))
        self.assert_same(basic_form(2, ("alone", 0)), (2, (((0, 1), 1), ((1,), -1))))
        self.assert_same(basic_form(2, ("shared", 0, 1, ())), (2, (((0,), 1), ((0, 1), -1), ((1,), 1))))
        self.assert_same(basic_form(3, ("shared", 0, 2, (1,))), (3, (((0, 1), 1), ((0, 1, 2), -1), ((1,), -1), ((1, 2), 1))))
        self.assert_same(basic_form(n=5, name=("shared", 1, 4, (0, 3))),
                         (5, (((0, 1, 3), 1), ((0, 1, 3, 4), -1), ((0, 3), -1), ((0, 3, 4), 1))))

    def test_all_forms(self):
        for n in range(1, 6):
            for name in names_by_hand(n):
                found = basic_form(n, name)
                self.assert_true(is_form(found))
                self.assert_same(found, (n, tuple(sorted(basic_by_hand(n, name).items()))))

    def test_they_are_not_below_nought_in_worlds(self):
        for world in [EVEN, UNEVEN, PARTS] + some_worlds(41, 12):
            for name in basic_names(world[0]):
                self.assertGreaterEqual(sign_of(value_in(basic_form(world[0], name), world)), 0)

    def test_bad_numbers(self):
        for thing in [None, True, 0, 6, -1, 10 ** 99, "1", (1,), [1], {}, ()]:
            self.assert_thing(BadNumber, thing, basic_names, thing)
            self.assert_thing(BadNumber, thing, basic_names, n=thing)
            self.assert_thing(BadNumber, thing, basic_form, thing, ("alone", 0))
            self.assert_thing(BadNumber, thing, basic_form, n=thing, name=None)

    def test_bad_names(self):
        for thing in NO_NAMES:
            self.assert_thing(BadName, thing, basic_form, 3, thing)
            self.assert_thing(BadName, thing, basic_form, n=3, name=thing)
        self.assert_thing(BadName, ("shared", 0, 1, ()), basic_form, 1, ("shared", 0, 1, ()))
        for n in range(1, 5):
            for name in set(names_by_hand(n + 1)) - set(names_by_hand(n)):
                self.assert_thing(BadName, name, basic_form, n, name)


class TestIsKept(Checked):

    def test_told_tables(self):
        self.assert_true(is_kept((2, (1, 1, 0))))
        self.assert_false(is_kept((2, (1, 3, 1))))
        self.assert_true(is_kept(thing=EVEN_TABLE))
        self.assert_true(is_kept((1, (0,))))
        self.assert_false(is_kept((1, (-1,))))
        self.assert_true(is_kept((4, (2, 3, 4, 4, 4, 3, 4, 3, 2, 3, 4, 3, 2, 4, 2))))

    def test_no_tables(self):
        for thing in NO_TABLES + [[2, (1, 1, 0)], (2, [1, 1, 0]), (2, (1, True, 0)), (2, (True, 1, False)), (1, (True,)), (1, (0, 0))]:
            self.assert_false(is_kept(thing), thing)

    def test_each_basic_form_counts(self):
        # Ranks of things of which any few are told by few more; one step off at one lot breaks some basic form.
        for n in range(1, 6):
            even = tuple(min(len(lot), 2) * 10 ** 30 for lot in all_lots(n))
            self.assert_true(is_kept((n, even)))
            for name in names_by_hand(n):
                numbers = dict(zip(all_lots(n), even))
                worth = sum(factor * numbers[lot] for lot, factor in basic_by_hand(n, name).items())
                for lot, factor in basic_by_hand(n, name).items():
                    for less in (0, 1):
                        changed = dict(numbers)
                        changed[lot] -= factor * (worth + less)
                        told = tuple(changed[lot] for lot in all_lots(n))
                        self.assertIs(is_kept((n, told)), is_kept_by_hand(n, told))
                        if less:
                            self.assert_false(is_kept((n, told)))

    def test_small_tables(self):
        choose = random.Random(42)
        kept = 0
        for n in (1, 2, 2, 3, 3, 3, 4):
            for _ in range(120):
                numbers = tuple(min(3, len(lot)) + choose.choice([0, 0, 0, 1, -1, 2]) * choose.choice([0, 1]) for lot in all_lots(n))
                wanted = is_kept_by_hand(n, numbers)
                kept += wanted
                self.assertIs(is_kept((n, numbers)), wanted)
        self.assertGreater(kept, 50)

    def test_only_one_basic_form_is_broken(self):
        for n in range(1, 5):
            columns = {name: [basic_by_hand(n, name).get(lot, 0) for lot in all_lots(n)] for name in names_by_hand(n)}
            for name in columns:
                m, numbers = weigh([column for other, column in columns.items() if other != name], columns[name])
                values = {other: sum(a * b for a, b in zip(column, numbers)) for other, column in columns.items()}
                self.assertEqual((m, [other for other, value in values.items() if value < 0]), (0, [name]))
                self.assert_false(is_kept((n, tuple(numbers))), name)
