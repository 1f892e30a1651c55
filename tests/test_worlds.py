"""Worlds, views, amounts of lots, what is left and what is shared ([2.1], [2.2], [2.3])."""

import random
from itertools import combinations, product

from tests.checks import ODD, Checked
from toldamounts.amounts import amount_of, is_below, minus, plus, sign_of, spread
from toldamounts.errors import BadLot, BadWorld
from toldamounts.worlds import given_amount, is_world, lot_amount, shared_amount, view_of

NOUGHT = (1, ())
EVEN = (3, (((0, 0, 0), 1), ((0, 1, 1), 1), ((1, 0, 1), 1), ((1, 1, 0), 1)))
ONE = (1, (((0,), 1),))
UNEVEN = (2, (((0, 5), 1), ((0, 9), 2), ((3, 5), 4), ((7, 1), 8)))
PARTS = (2, (((0, 0), 1), ((0, 1), 1), ((1, 0), 1), ((1, 1), 1), ((2, 2), 4)))
SIX = (6, (((0, 0, 0, 0, 0, 0), 3), ((0, 1, 2, 3, 4, 5), 5), ((5, 1, 0, 3, 0, 5), 7), ((999, 0, 2, 3, 0, 0), 99)))
GREATEST = (6, tuple(((at, 999, 999, 999, 999, 999), 24 if at else 63) for at in range(40)))
WORLDS = [EVEN, ONE, UNEVEN, PARTS, SIX]
GOOD_WORLDS = WORLDS + [GREATEST, (1, (((999,), 99),)), (1, tuple(((at,), 1) for at in range(40))), (2, (((0, 1), 1), ((1, 0), 1)))]
ROW = ((0, 0), 1)
NO_WORLDS = ODD + [
    (2, ()), (0, (((), 1),)), (7, (((0,) * 7, 1),)), (-1, (ROW,)), (True, (((0,), 1),)), ("2", (ROW,)), (None, (ROW,)),
    [2, (ROW,)], (2, [ROW]), (2, (ROW,), ()), (2,), (2, ROW), (2, ([(0, 0), 1],)), (2, (([0, 0], 1),)), (2, (((0, 0), 1, 1),)),
    (2, (((0, 0),),)), (3, (ROW,)), (1, (ROW,)), (2, (((0, 0, 0), 1),)), (2, (((0,), 1),)), (2, (ROW, ((0, 1, 0), 1))),
    (2, (((0, 0), 0),)), (2, (((0, 0), 100),)), (2, (((0, 0), -1),)), (2, (((0, 0), True),)), (2, (((0, 0), None),)),
    (2, (((0, 0), "1"),)), (2, (((0, 0), (1,)),)), (2, (((0, 1000), 1),)), (2, (((0, -1), 1),)), (2, (((0, True), 1),)),
    (2, (((False, 0), 1),)), (2, (((0, None), 1),)), (2, (((0, "0"), 1),)), (2, (((0, (0,)), 1),)), (2, (((0, 10 ** 99), 1),)),
    (2, (ROW, ROW)), (2, (((0, 0), 1), ((0, 0), 2))), (2, (((0, 1), 1), ((0, 0), 1))), (2, (((1, 0), 1), ((0, 1), 1))),
    (1, tuple(((at,), 1) for at in range(41))), (1, tuple(((at,), 25) for at in range(40))),
    (6, tuple(((at, 999, 999, 999, 999, 999), 24 if at else 64) for at in range(40))), (2, (ROW, None)), (2, (ROW, [(0, 1), 1])),
    ((ROW,), 2), (2, {ROW: 1}), (2, "rows"), (10 ** 99, (ROW,)),
]


def lots_of_things(n):
    """All lots of n things, () too."""
    return [lot for size in range(n + 1) for lot in combinations(range(n), size)]


def no_lots(n):
    """Values that are no lots of n things."""
    return [odd for odd in ODD if odd not in [(), (1,), (0, 1, 2, 3, 4, 5, 6), (1, 2, 3)]] + [
        (n,), (-1,), (0, n), (0, 0), (1, 0) if n > 1 else (0, 0), (True,), (False,), (0, True), ("0",), (None,), [0], (0, "1"),
        ((0,),), 0, {0: 1}, (10 ** 99,), "0",
    ]


def counts_by_hand(world, lot):
    """What the lot shows in each row, with the sum of the counts."""
    counts = {}
    for outcome, count in world[1]:
        seen = tuple(outcome[thing] for thing in lot)
        counts[seen] = counts.get(seen, 0) + count
    return counts


def amount_by_hand(world, lot):
    return spread(tuple(counts_by_hand(world, lot).values()))


def union(*lots):
    return tuple(sorted({thing for lot in lots for thing in lot}))


def some_worlds(seed, many):
    """Small worlds of two to four things."""
    choose = random.Random(seed)
    found = []
    for _ in range(many):
        n = choose.randint(2, 4)
        outcomes = {tuple(choose.randint(0, 2) for _ in range(n)) for _ in range(choose.randint(1, 8))}
        found.append((n, tuple((outcome, choose.choice([1, 1, 2, 3])) for outcome in sorted(outcomes))))
    return found


class TestIsWorld(Checked):

    def test_worlds(self):
        for thing in GOOD_WORLDS + some_worlds(1, 20):
            self.assert_true(is_world(thing), thing)
        self.assertEqual(sum(count for _, count in GREATEST[1]), 999)

    def test_no_worlds(self):
        for thing in NO_WORLDS:
            self.assert_false(is_world(thing), thing)

    def test_each_size(self):
        for n in range(-1, 9):
            self.assertIs(is_world((n, (((0,) * max(n, 0), 1),))), 1 <= n <= 6)

    def test_each_limit(self):
        for count in (-1, 0, 1, 2, 98, 99, 100, 999):
            self.assertIs(is_world((1, (((0,), count),))), 1 <= count <= 99)
        for item in (-1, 0, 1, 998, 999, 1000):
            self.assertIs(is_world((2, (((0, item), 1),))), 0 <= item <= 999)
        for many in (0, 1, 39, 40, 41):
            self.assertIs(is_world((1, tuple(((at,), 1) for at in range(many)))), 1 <= many <= 40)
        for last in (8, 9, 10):
            rows = tuple(((at,), 99) for at in range(10)) + (((10,), last),)
            self.assertIs(is_world((1, rows)), last <= 9)

    def test_by_name(self):
        self.assert_true(is_world(thing=EVEN))


class TestViews(Checked):

    def test_told_views(self):
        self.assert_same(view_of(EVEN, (2,)), (((0,), 2), ((1,), 2)))
        self.assert_same(view_of(EVEN, ()), (((), 4),))
        self.assert_same(view_of(UNEVEN, (1,)), (((1,), 8), ((5,), 5), ((9,), 2)))
        self.assert_same(view_of(UNEVEN, (0, 1)), UNEVEN[1])
        self.assert_same(view_of(SIX, (0, 5)), (((0, 0), 3), ((0, 5), 5), ((5, 5), 7), ((999, 0), 99)))
        self.assert_same(view_of(world=ONE, lot=(0,)), (((0,), 1),))
        self.assert_same(view_of(GREATEST, (1, 2)), (((999, 999), 999),))

    def test_all_lots(self):
        for world in WORLDS + some_worlds(2, 20):
            for lot in lots_of_things(world[0]):
                wanted = tuple(sorted(counts_by_hand(world, lot).items()))
                self.assert_same(view_of(world, lot), wanted)

    def test_bad_worlds(self):
        for thing in NO_WORLDS:
            for lot in [(0,), "lot"]:
                self.assert_thing(BadWorld, thing, view_of, thing, lot)
                self.assert_thing(BadWorld, thing, view_of, world=thing, lot=lot)

    def test_bad_lots(self):
        for world in WORLDS:
            for thing in no_lots(world[0]):
                self.assert_thing(BadLot, thing, view_of, world, thing)
                self.assert_thing(BadLot, thing, view_of, world=world, lot=thing)


class TestAmountsOfLots(Checked):

    def test_told_amounts(self):
        self.assert_same(lot_amount(EVEN, (0, 1, 2)), (1, ((2, 2),)))
        self.assert_same(lot_amount(EVEN, ()), NOUGHT)
        self.assert_same(lot_amount(EVEN, (1,)), (1, ((2, 1),)))
        self.assert_same(lot_amount(world=UNEVEN, lot=(1,)), spread((8, 5, 2)))
        self.assert_same(lot_amount(PARTS, (0,)), (2, ((2, 3),)))

    def test_all_lots(self):
        for world in WORLDS + some_worlds(3, 20):
            self.assert_same(lot_amount(world, ()), NOUGHT)
            for lot in lots_of_things(world[0]):
                self.assert_same(lot_amount(world, lot), amount_by_hand(world, lot))

    def test_told_amounts_given_others(self):
        self.assert_same(given_amount(EVEN, (2,), (0, 1)), NOUGHT)
        self.assert_same(given_amount(EVEN, (2,), (0,)), (1, ((2, 1),)))
        self.assert_same(given_amount(EVEN, (0, 1, 2), ()), (1, ((2, 2),)))
        self.assert_same(given_amount(EVEN, (0, 1), (1, 2)), NOUGHT)
        self.assert_same(given_amount(world=EVEN, lot=(), given=(1,)), NOUGHT)

    def test_told_shared_amounts(self):
        self.assert_same(shared_amount(EVEN, (0,), (1,), (2,)), (1, ((2, 1),)))
        self.assert_same(shared_amount(EVEN, (0,), (1,), ()), NOUGHT)
        self.assert_same(shared_amount(EVEN, (0, 1), (1, 2), ()), (1, ((2, 2),)))
        self.assert_same(shared_amount(EVEN, (0, 1), (1, 2), (1,)), (1, ((2, 1),)))
        self.assert_same(shared_amount(world=EVEN, one=(0,), other=(0,), given=(0,)), NOUGHT)

    def test_all_lots_given_others(self):
        for world in WORLDS[:4] + some_worlds(4, 12):
            for lot, given in product(lots_of_things(world[0]), repeat=2):
                found = given_amount(world, lot, given)
                self.assert_same(found, minus(amount_by_hand(world, union(lot, given)), amount_by_hand(world, given)))
                self.assertGreaterEqual(sign_of(found), 0)

    def test_all_shared_amounts(self):
        for world in [world for world in WORLDS[:4] + some_worlds(5, 8) if world[0] < 4]:
            for one, other, given in product(lots_of_things(world[0]), repeat=3):
                found = shared_amount(world, one, other, given)
                plain = minus(plus(amount_by_hand(world, union(one, given)), amount_by_hand(world, union(other, given))),
                              plus(amount_by_hand(world, union(one, other, given)), amount_by_hand(world, given)))
                self.assert_same(found, plain)
                self.assertGreaterEqual(sign_of(found), 0)
                self.assert_same(found, shared_amount(world, other, one, given))

    def test_amounts_in_a_world_of_many_rows(self):
        self.assert_same(lot_amount(GREATEST, (0,)), spread((63,) + (24,) * 39))
        self.assert_same(given_amount(GREATEST, (0,), (1,)), spread((63,) + (24,) * 39))
        self.assert_true(is_below(lot_amount(GREATEST, (0,)), amount_of(40)))

    def test_bad_worlds(self):
        for thing in NO_WORLDS:
            self.assert_thing(BadWorld, thing, lot_amount, thing, (0,))
            self.assert_thing(BadWorld, thing, lot_amount, world=thing, lot=None)
            self.assert_thing(BadWorld, thing, given_amount, thing, (0,), (0,))
            self.assert_thing(BadWorld, thing, given_amount, thing, None, "given")
            self.assert_thing(BadWorld, thing, shared_amount, thing, (0,), (0,), ())
            self.assert_thing(BadWorld, thing, shared_amount, thing, None, "other", 7)

    def test_bad_lots(self):
        for world in WORLDS:
            for thing in no_lots(world[0]):
                self.assert_thing(BadLot, thing, lot_amount, world, thing)
                self.assert_thing(BadLot, thing, given_amount, world, thing, "given")
                self.assert_thing(BadLot, thing, given_amount, world=world, lot=(0,), given=thing)
                self.assert_thing(BadLot, thing, shared_amount, world, thing, "other", "given")
                self.assert_thing(BadLot, thing, shared_amount, world, (0,), thing, "given")
                self.assert_thing(BadLot, thing, shared_amount, world=world, one=(0,), other=(), given=thing)
