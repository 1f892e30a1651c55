"""Systems and the ranks of lots ([4.1])."""

import random
from itertools import product

from tests.checks import ODD, Checked
from tests.test_forms import all_lots
from tests.test_worlds import lots_of_things, no_lots
from toldamounts.errors import BadLot, BadSystem, OtherSize
from toldamounts.forms import is_table
from toldamounts.spaces import beside_systems, is_system, rank_of, ranks_of

PRIMES = (2, 3, 5, 7)
NONE = ((), (), (), ())
LINES = (2, 2, (((1, 0),), ((0, 1),), ((1, 1),), ()))
FULL = (7, 8, (((6,) * 8,) * 8, ((0,) * 8,) * 8, tuple(tuple(int(a == b) for b in range(8)) for a in range(8)), ()))
GOOD_SYSTEMS = [LINES, FULL, (2, 1, NONE), (3, 8, NONE), (5, 1, (((4,),) * 8, ((0,),), (), ((1,), (1,))))]
NO_SYSTEMS = ODD + [
    [2, 1, NONE], (2, 1, list(NONE)), (2, 1, NONE, ()), (2, 1), (2, 1, ((), (), ())), (2, 1, ((),) * 5), (2, 1, ()), (2, 1, None),
    (1, 1, NONE), (4, 1, NONE), (6, 1, NONE), (9, 1, NONE), (11, 1, NONE), (0, 1, NONE), (-2, 1, NONE), (True, 1, NONE), ("2", 1, NONE),
    (None, 1, NONE), ((2,), 1, NONE), (10 ** 99, 1, NONE), (2, 0, NONE), (2, 9, NONE), (2, -1, NONE), (2, True, NONE), (2, "1", NONE),
    (2, None, NONE), (2, 10 ** 99, NONE), (2, (1,), NONE), (2, 1, ([], (), (), ())), (2, 1, ((), (), (), None)), (2, 1, ({}, (), (), ())),
    (2, 1, ("", (), (), ())), (2, 1, (((1,),) * 9, (), (), ())), (2, 1, ((), (), (), ((0,),) * 9)), (2, 1, (([1],), (), (), ())),
    (2, 1, ([(1,)], (), (), ())), (2, 1, ((1,), (), (), ())), (2, 1, ((None,), (), (), ())), (2, 1, (((),), (), (), ())),
    (2, 1, (((1, 0),), (), (), ())), (2, 2, (((1,),), (), (), ())), (2, 2, (((1, 0), (1,)), (), (), ())), (2, 1, (((2,),), (), (), ())),
    (2, 1, (((-1,),), (), (), ())), (3, 1, (((3,),), (), (), ())), (7, 1, (((7,),), (), (), ())), (2, 1, (((True,),), (), (), ())),
    (2, 1, (((False,),), (), (), ())), (2, 1, (((None,),), (), (), ())), (2, 1, ((("1",),), (), (), ())), (2, 1, ((((1,),),), (), (), ())),
    (2, 2, (((1, True),), (), (), ())), (2, 1, (("1",), (), (), ())), (1, 2, NONE), (NONE, 1, 2), ((2, 1), NONE), {2: 1}, ("2", "1", NONE),
    (2, 8, (((1,) * 7,), (), (), ())), (2, 8, (((1,) * 9,), (), (), ())), (2, 1, {0: (), 1: (), 2: (), 3: ()}), (2, 1, "abcd"),
]


def rank_by_span(p, d, rows):
    """The rank of rows: how often they make the set of all sums greater."""
    found = {(0,) * d}
    rank = 0
    for row in rows:
        if row not in found:
            rank += 1
            found = {tuple((a + k * b) % p for a, b in zip(one, row)) for one in found for k in range(p)}
    return rank


def rows_of(system, lot):
    return [row for thing in lot for row in system[2][thing]]


def some_systems(p, d, seed, many, most=3):
    choose = random.Random(seed)
    kinds = [range(p), (0, 0, 1), (0, 0, 0, 1, p - 1), (0, 1)]
    found = []
    for _ in range(many):
        figures = choose.choice(kinds)
        found.append((p, d, tuple(
            tuple(tuple(choose.choice(figures) for _ in range(d)) for _ in range(choose.randint(0, most))) for _ in range(4))))
    return found


class TestIsSystem(Checked):

    def test_systems(self):
        for thing in GOOD_SYSTEMS + some_systems(5, 3, 1, 10):
            self.assert_true(is_system(thing), thing)
        self.assert_true(is_system(thing=LINES))

    def test_no_systems(self):
        for thing in NO_SYSTEMS:
            self.assert_false(is_system(thing), thing)

    def test_each_limit(self):
        for p in range(-3, 20):
            self.assertIs(is_system((p, 1, NONE)), p in PRIMES)
        for d in range(-1, 12):
            self.assertIs(is_system((2, d, NONE)), 1 <= d <= 8)
            self.assertIs(is_system((2, d, ((), ((0,) * max(d, 0),), (), ()))), 1 <= d <= 8)
        for many in range(12):
            for thing in range(4):
                tables = tuple(((1, 0),) * (many if thing == other else 0) for other in range(4))
                self.assertIs(is_system((2, 2, tables)), many <= 8)
        for many in range(7):
            self.assertIs(is_system((2, 2, ((),) * many)), many == 4)
        for p in PRIMES:
            for figure in range(-2, 12):
                self.assertIs(is_system((p, 2, ((), (), ((0, figure),), ()))), 0 <= figure < p)


class TestRanks(Checked):

    def test_told_ranks(self):
        self.assert_same(rank_of(LINES, (0, 1)), 2)
        self.assert_same(rank_of(LINES, (0, 1, 2)), 2)
        self.assert_same(rank_of(LINES, (3,)), 0)
        self.assert_same(rank_of(system=LINES, lot=()), 0)
        self.assert_same(ranks_of(system=LINES), (4, (1, 2, 2, 2, 2, 2, 2, 1, 1, 2, 2, 1, 1, 1, 0)))
        self.assert_same(ranks_of(FULL)[1], tuple(8 if 2 in lot else int(0 in lot) for lot in all_lots(4)))
        self.assert_same(ranks_of((5, 1, NONE)), (4, (0,) * 15))

    def test_ranks_depend_on_the_prime(self):
        for p in PRIMES:
            cycle = (p, 3, (((1, 1, 0),), ((0, 1, 1),), ((1, 0, 1),), ()))
            self.assert_same(rank_of(cycle, (0, 1, 2)), 2 if p == 2 else 3)
            even = (p, 2, (((1, 1),), ((1, p - 1),), ((p - 1, p - 1),), ((0, 0),)))
            self.assert_same(ranks_of(even)[1], tuple(
                (1 if p == 2 or not ({0, 2} & set(lot) and 1 in lot) else 2) if lot != (3,) else 0 for lot in all_lots(4)))

    def test_ranks_of_all_lots_by_spans(self):
        for p, d in [(2, 1), (2, 3), (2, 4), (2, 8), (3, 2), (3, 4), (5, 3), (7, 1), (7, 3)]:
            for system in some_systems(p, d, 10 * p + d, 10):
                for lot in lots_of_things(4):
                    self.assert_same(rank_of(system, lot), rank_by_span(p, d, rows_of(system, lot)))
                self.assert_same(ranks_of(system), (4, tuple(rank_of(system, lot) for lot in all_lots(4))))
                self.assert_true(is_table(ranks_of(system)))

    def test_full_systems_of_known_ranks(self):
        choose = random.Random(3)
        for p in PRIMES:
            for _ in range(6):
                # Rows of one figure each, moved by columns that are added to one another, so that ranks stay.
                marks = [[choose.randint(0, 7) for _ in range(choose.randint(0, 8))] for _ in range(4)]
                rows = [[[int(at == mark) for at in range(8)] for mark in each] for each in marks]
                for _ in range(20):
                    a, b = choose.sample(range(8), 2)
                    k = choose.randint(1, p - 1)
                    for row in [row for each in rows for row in each]:
                        row[a] = (row[a] + k * row[b]) % p
                system = (p, 8, tuple(tuple(tuple(row) for row in each) for each in rows))
                for lot in lots_of_things(4):
                    self.assert_same(rank_of(system, lot), len({mark for thing in lot for mark in marks[thing]}))

    def test_rows_exchanged_multiplied_and_added(self):
        choose = random.Random(4)
        for p in PRIMES:
            for system in some_systems(p, 4, 50 + p, 8, 4):
                tables = [list(rows) for rows in system[2]]
                for _ in range(6):
                    rows = choose.choice([rows for rows in tables if len(rows) > 1] or [[(0, 0, 0, 0), (0, 0, 0, 0)]])
                    a, b = choose.sample(range(len(rows)), 2)
                    rows[a], rows[b] = rows[b], rows[a]
                    k = choose.randint(1, p - 1)
                    rows[a] = tuple(k * figure % p for figure in rows[a])
                    rows[b] = tuple((figure + k * more) % p for figure, more in zip(rows[b], rows[a]))
                    self.assert_same(ranks_of((p, 4, tuple(tuple(each) for each in tables))), ranks_of(system))

    def test_bad_systems_and_lots(self):
        for thing in NO_SYSTEMS:
            self.assert_thing(BadSystem, thing, rank_of, thing, (0,))
            self.assert_thing(BadSystem, thing, rank_of, system=thing, lot=None)
            self.assert_thing(BadSystem, thing, ranks_of, thing)
            self.assert_thing(BadSystem, thing, ranks_of, system=thing)
        for thing in [no for no in no_lots(4) if no != (1, 2, 3)]:
            self.assert_thing(BadLot, thing, rank_of, LINES, thing)
            self.assert_thing(BadLot, thing, rank_of, system=LINES, lot=thing)


class TestBesideSystems(Checked):

    def test_told_systems(self):
        self.assert_same(beside_systems((3, 1, (((1,),), (), (), ())), (3, 1, (((2,),), (), (), ((1,),)))),
                         (3, 2, (((1, 0), (0, 2)), (), (), ((0, 1),))))
        self.assert_same(beside_systems(one=LINES, other=(2, 1, (((1,), (0,)), (), (), ((1,),)))),
                         (2, 3, (((1, 0, 0), (0, 0, 1), (0, 0, 0)), ((0, 1, 0),), ((1, 1, 0),), ((0, 0, 1),))))

    def test_ranks_are_added(self):
        for p in PRIMES:
            for (d, one), (e, other) in product([(d, system) for d in (1, 2, 4) for system in some_systems(p, d, 70 + d, 4)], repeat=2):
                found = beside_systems(one, other)
                self.assert_same(found, (p, d + e, tuple(
                    tuple(row + (0,) * e for row in rows) + tuple((0,) * d + row for row in more) for rows, more in zip(one[2], other[2]))))
                self.assert_true(is_system(found))
                self.assert_same(ranks_of(found)[1], tuple(a + b for a, b in zip(ranks_of(one)[1], ranks_of(other)[1])))

    def test_more_than_eight_rows_are_told_all_the_same(self):
        one = (5, 1, (((1,),) * 8, ((2,),) * 4, ((0,),) * 5, ()))
        other = (5, 2, (((3, 4),), ((0, 1),) * 4, ((4, 4),) * 4, ()))
        found = beside_systems(one, other)
        self.assert_same(found, (5, 3, (((1, 0, 0),) * 8 + ((0, 3, 4),), ((2, 0, 0),) * 4 + ((0, 0, 1),) * 4,
                                        ((0, 0, 0),) * 5 + ((0, 4, 4),) * 4, ())))
        self.assert_false(is_system(found))
        self.assert_thing(BadSystem, found, ranks_of, found)
        self.assert_same([len(rows) for rows in beside_systems(FULL[:1] + (4, tuple(tuple(row[:4] for row in rows) for rows in FULL[2])),
                                                                (7, 4, (((1, 2, 3, 4),) * 8,) * 4))[2]], [16, 16, 16, 8])

    def test_bad_systems_and_other_sizes(self):
        for thing in NO_SYSTEMS:
            self.assert_thing(BadSystem, thing, beside_systems, thing, LINES)
            self.assert_thing(BadSystem, thing, beside_systems, LINES, thing)
            self.assert_thing(BadSystem, thing, beside_systems, thing, "other")
            self.assert_thing(BadSystem, thing, beside_systems, one=FULL, other=thing)
        for p, q in product(PRIMES, repeat=2):
            for d, e in product(range(1, 9), repeat=2):
                one, other = (p, d, NONE), (q, e, (((1,) * e,), (), (), ()))
                if p != q or d + e > 8:
                    self.assert_thing(OtherSize, other, beside_systems, one, other)
                else:
                    self.assert_same(beside_systems(one, other), (p, d + e, (((0,) * d + (1,) * e,), (), (), ())))
