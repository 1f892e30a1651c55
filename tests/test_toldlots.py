"""The told lots of three and of four things, their tables and systems ([4.3])."""

import random

from tests.checks import ODD, Checked
from tests.hand import TABLES, form_by_hand, named_by_hand, sum_names_by_hand, system_by_hand, told_names_by_hand, value_by_hand
from tests.test_forms import all_lots
from toldamounts.errors import BadName, BadNumber, BadPrime
from toldamounts.spaces import beside_systems, is_system, ranks_of
from toldamounts.toldlots import told_names, told_system, told_table

NAMES_OF_FOUR = (
    ("corner",), ("double", 0, 1), ("double", 0, 2), ("double", 0, 3), ("double", 1, 2), ("double", 1, 3), ("double", 2, 3),
    ("hit", (0,)), ("hit", (0, 1)), ("hit", (0, 1, 2)), ("hit", (0, 1, 2, 3)), ("hit", (0, 1, 3)), ("hit", (0, 2)), ("hit", (0, 2, 3)),
    ("hit", (0, 3)), ("hit", (1,)), ("hit", (1, 2)), ("hit", (1, 2, 3)), ("hit", (1, 3)), ("hit", (2,)), ("hit", (2, 3)), ("hit", (3,)),
    ("plane", 0), ("plane", 1), ("plane", 2), ("plane", 3), ("planes",), ("three", 0), ("three", 1), ("three", 2), ("three", 3),
    ("wide", 0), ("wide", 1), ("wide", 2), ("wide", 3),
)
NAMES_OF_THREE = (
    ("hit", (0,)), ("hit", (0, 1)), ("hit", (0, 1, 2)), ("hit", (0, 2)), ("hit", (1,)), ("hit", (1, 2)), ("hit", (2,)), ("three",),
)
NO_NAMES = ODD + [
    ("hit",), ("hit", ()), ("hit", (0,), ()), ("hit", [0]), ("hit", 0), ("hit", None), ("hit", "0"), ("hit", (1, 0)), ("hit", (0, 0)),
    ("hit", (-1,)), ("hit", (4,)), ("hit", (True,)), ("hit", (0, True)), ("hit", (False,)), ("hit", ((0,),)), ("hit", ("0",)), ["hit", (0,)],
    ("Hit", (0,)), ("hit", {}), ("hit", {0: 1}), ("hit", (0, None)), ("hit", (10 ** 99,)), ("three", -1), ("three", 4), ("three", True),
    ("three", False), ("three", None), ("three", (0,)), ("three", "0"), ("three", 0, 1), ["three"], ["three", 0], ("wide",), ("wide", 4),
    ("wide", -1), ("wide", True), ("wide", (0,)), ("wide", 0, 1), ("plane",), ("plane", 4), ("plane", False), ("plane", 0, 1), ("plane", ()),
    ("planes", 0), ("planes", ()), ["planes"], "planes", "corner", "three", ("corner", 0), ["corner"], ("corners",), ("double",),
    ("double", 0), ("double", 1, 0), ("double", 0, 0), ("double", 0, 4), ("double", -1, 0), ("double", False, 1), ("double", 0, True),
    ("double", 0, 1, 2), ("double", (0, 1)), ("double", 0, None), ("double", "0", "1"), ["double", 0, 1], ("four", 0, 1), ("alone", 0),
    ("shared", 0, 1, ()), (0, "three"), (("three",),), (["hit"], (0,)), (None, (0,)), ("", (0,)), (("hit",), (0,)),
]
PRIMES = (2, 3, 5, 7)


class TestToldNames(Checked):

    def test_told_names(self):
        self.assert_same(told_names(4), NAMES_OF_FOUR)
        self.assert_same(told_names(n=3), NAMES_OF_THREE)
        self.assertEqual((len(NAMES_OF_FOUR), len(NAMES_OF_THREE)), (35, 8))
        for n in (3, 4):
            self.assert_same(told_names(n), tuple(sorted(told_names_by_hand(n))))

    def test_bad_numbers(self):
        for thing in ODD + [2, 6, (3,), [4], "3"]:
            self.assert_thing(BadNumber, thing, told_names, thing)
            self.assert_thing(BadNumber, thing, told_names, n=thing)


class TestToldTables(Checked):

    def test_told_tables(self):
        self.assert_same(told_table(4, ("corner",)), (4, (1, 2, 3, 3, 3, 2, 3, 2, 1, 2, 3, 2, 1, 2, 1)))
        self.assert_same(told_table(3, ("three",)), (3, (1, 2, 2, 2, 1, 2, 1)))
        self.assert_same(told_table(n=3, name=("hit", (0, 2))), (3, (1, 1, 1, 1, 0, 1, 1)))
        self.assert_same(told_table(4, ("planes",)), (4, (2, 4, 4, 4, 4, 4, 4, 4, 2, 4, 4, 4, 2, 4, 2)))
        self.assert_same(told_table(4, ("hit", (1, 3))), (4, (0, 1, 1, 1, 1, 0, 1, 1, 1, 1, 1, 1, 0, 1, 1)))
        self.assert_same(told_table(4, ("three", 2)), (4, (1, 2, 2, 2, 2, 1, 2, 2, 1, 1, 2, 2, 0, 1, 1)))
        self.assert_same(told_table(4, ("double", 1, 2)), (4, (1, 2, 2, 2, 2, 2, 2, 2, 1, 1, 2, 2, 1, 2, 1)))
        self.assert_same(told_table(4, ("wide", 0)), (4, (2, 2, 2, 2, 2, 2, 2, 2, 1, 2, 2, 2, 1, 2, 1)))
        self.assert_same(told_table(4, ("plane", 3)), (4, (1, 2, 3, 3, 3, 2, 3, 3, 1, 2, 3, 3, 1, 3, 2)))

    def test_all_tables(self):
        for n in (3, 4):
            for name in told_names_by_hand(n):
                self.assert_same(told_table(n, name), (n, tuple(TABLES[n][name][lot] for lot in all_lots(n))))
        self.assertEqual(len({told_table(4, name) for name in NAMES_OF_FOUR}), 35)
        self.assertEqual(len({told_table(3, name) for name in NAMES_OF_THREE}), 8)

    def test_named_forms_are_not_below_nought_at_them(self):
        for n in (3, 4):
            for name in sum_names_by_hand(n):
                form = form_by_hand(n, [(1, named_by_hand(n, name))])
                values = [value_by_hand(form, TABLES[n][told]) for told in told_names_by_hand(n)]
                self.assertEqual((min(values), min(values) < max(values)), (0, True))

    def test_bad_numbers_and_names(self):
        for thing in ODD + [2, 6, (3,), [4], "3"]:
            self.assert_thing(BadNumber, thing, told_table, thing, ("hit", (0,)))
            self.assert_thing(BadNumber, thing, told_table, n=thing, name=None)
        for n in (3, 4):
            for thing in NO_NAMES:
                self.assert_thing(BadName, thing, told_table, n, thing)
                self.assert_thing(BadName, thing, told_table, n=n, name=thing)
        for thing in [name for name in NAMES_OF_FOUR if name not in NAMES_OF_THREE]:
            self.assert_thing(BadName, thing, told_table, 3, thing)
        self.assert_thing(BadName, ("three",), told_table, 4, ("three",))


class TestToldSystems(Checked):

    def test_told_systems(self):
        self.assert_same(told_system(5, ("hit", (1, 2))), (5, 1, ((), ((1,),), ((1,),), ())))
        self.assert_same(told_system(p=2, name=("three", 1)), (2, 2, (((1, 0),), (), ((0, 1),), ((1, 1),))))
        self.assert_same(told_system(7, ("double", 0, 2)), (7, 2, (((1, 1),), ((1, 0),), ((1, 1),), ((0, 1),))))
        self.assert_same(told_system(3, ("wide", 3)), (3, 2, (((1, 0),), ((0, 1),), ((1, 1),), ((1, 0), (0, 1)))))
        self.assert_same(told_system(2, ("corner",)), (2, 3, (((1, 0, 0),), ((0, 1, 0),), ((0, 0, 1),), ((1, 1, 1),))))
        self.assert_same(told_system(3, ("plane", 1)), (3, 3, (((1, 0, 0),), ((1, 1, 0), (0, 1, 1)), ((0, 1, 0),), ((0, 0, 1),))))
        self.assert_same(told_system(5, ("planes",)), (5, 4, (((1, 0, 0, 0), (0, 1, 0, 0)), ((0, 0, 1, 0), (0, 0, 0, 1)),
                                                              ((1, 0, 1, 0), (0, 1, 0, 1)), ((1, 0, 0, 1), (0, 1, 1, 1)))))

    def test_all_systems_have_the_tables_for_each_prime(self):
        for p in PRIMES:
            for name in NAMES_OF_FOUR:
                found = told_system(p, name)
                d, rows = system_by_hand(name)
                self.assert_same(found, (p, d, tuple(tuple(each) for each in rows)))
                self.assert_true(is_system(found))
                self.assert_same(ranks_of(found), told_table(4, name))

    def test_two_of_them_beside_one_another(self):
        choose = random.Random(5)
        for _ in range(60):
            p = choose.choice(PRIMES)
            one, other = choose.choice(NAMES_OF_FOUR), choose.choice(NAMES_OF_FOUR)
            found = ranks_of(beside_systems(told_system(p, one), told_system(p, other)))
            self.assert_same(found, (4, tuple(TABLES[4][one][lot] + TABLES[4][other][lot] for lot in all_lots(4))))

    def test_bad_primes_and_names(self):
        for thing in ODD + [4, 6, 9, 11, -2, "2", (2,), [3], 2 ** 61 - 1]:
            if thing != 5 or isinstance(thing, bool):
                self.assert_thing(BadPrime, thing, told_system, thing, ("corner",))
                self.assert_thing(BadPrime, thing, told_system, p=thing, name=None)
        for p in PRIMES:
            for thing in NO_NAMES + [("three",)]:
                self.assert_thing(BadName, thing, told_system, p, thing)
                self.assert_thing(BadName, thing, told_system, p=p, name=thing)
