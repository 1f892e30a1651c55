"""Worlds beside one another, grouped, and with other names ([2.6])."""

from itertools import permutations, product

from tests.checks import ODD, Checked
from tests.test_worlds import EVEN, NO_WORLDS, ONE, PARTS, SIX, UNEVEN, lots_of_things, no_lots, some_worlds
from toldamounts.amounts import plus
from toldamounts.errors import BadLots, BadRenaming, BadWorld, OtherSize
from toldamounts.makingworlds import beside, grouped, led_world
from toldamounts.worlds import is_world, lot_amount, view_of

COIN = (1, (((0,), 1), ((1,), 1)))
STEPS = (2, (((0, 5), 1), ((7, 5), 2)))


def beside_by_hand(one, other):
    sizes = [1 + max(outcome[i] for outcome, _ in other[1]) for i in range(one[0])]
    rows = {}
    for (x, many), (y, more) in product(one[1], other[1]):
        outcome = tuple(x[i] * sizes[i] + y[i] for i in range(one[0]))
        assert outcome not in rows
        rows[outcome] = many * more
    return one[0], tuple(sorted(rows.items()))


def grouped_by_hand(world, lots):
    views = [[seen for seen, _ in view_of(world, lot)] for lot in lots]
    rows = {}
    for outcome, count in world[1]:
        group = tuple(view.index(tuple(outcome[thing] for thing in lot)) for lot, view in zip(lots, views))
        rows[group] = rows.get(group, 0) + count
    return len(lots), tuple(sorted(rows.items()))


class TestBeside(Checked):

    def test_told_worlds(self):
        self.assert_same(beside(COIN, COIN), (1, (((0,), 1), ((1,), 1), ((2,), 1), ((3,), 1))))
        self.assert_same(beside(one=ONE, other=COIN), COIN)
        self.assert_same(beside(COIN, ONE), COIN)
        self.assert_same(beside((1, (((2,), 3), ((4,), 5))), (1, (((0,), 2), ((2,), 7)))),
                         (1, (((6,), 6), ((8,), 21), ((12,), 10), ((14,), 35))))
        self.assert_same(beside((1, (((2,), 3), ((4,), 5))), (1, (((1,), 2),))), (1, (((5,), 6), ((9,), 10))))

    def test_rows_that_do_not_come_in_order(self):
        one = (2, (((0, 0), 1), ((0, 1), 2)))
        other = (2, (((0, 0), 3), ((1, 0), 4)))
        self.assert_same(beside(one, other), (2, (((0, 0), 3), ((0, 1), 6), ((1, 0), 4), ((1, 1), 8))))

    def test_rows_and_amounts_of_all_lots(self):
        some = [world for world in [EVEN, UNEVEN, PARTS] + some_worlds(11, 14) if len(world[1]) < 7]
        for one, other in product(some, repeat=2):
            if one[0] == other[0]:
                found = beside(one, other)
                self.assert_same(found, beside_by_hand(one, other))
                if is_world(found):
                    for lot in lots_of_things(one[0]):
                        self.assert_same(lot_amount(found, lot), plus(lot_amount(one, lot), lot_amount(other, lot)))

    def test_bad_worlds_and_other_sizes(self):
        for thing in NO_WORLDS:
            self.assert_thing(BadWorld, thing, beside, thing, COIN)
            self.assert_thing(BadWorld, thing, beside, COIN, thing)
            self.assert_thing(BadWorld, thing, beside, thing, "other")
            self.assert_thing(BadWorld, thing, beside, one=EVEN, other=thing)
        for one, other in [(COIN, EVEN), (EVEN, COIN), (UNEVEN, SIX), (SIX, UNEVEN)]:
            self.assert_thing(OtherSize, other, beside, one, other)


class TestGrouped(Checked):

    def test_told_worlds(self):
        self.assert_same(grouped(STEPS, ((0, 1), (1,))), (2, (((0, 0), 1), ((1, 0), 2))))
        self.assert_same(grouped(EVEN, ((),)), (1, (((0,), 4),)))
        self.assert_same(grouped(EVEN, ((0,), (0,))), (2, (((0, 0), 2), ((1, 1), 2))))
        self.assert_same(grouped(world=UNEVEN, lots=((1,),)), (1, (((0,), 8), ((1,), 5), ((2,), 2))))
        self.assert_same(grouped(UNEVEN, ((1,), (0,))), (2, (((0, 2), 8), ((1, 0), 1), ((1, 1), 4), ((2, 0), 2))))

    def test_one_to_six_lots(self):
        for many in range(1, 7):
            self.assert_same(grouped(EVEN, ((0,),) * many), (many, (((0,) * many, 2), ((1,) * many, 2))))

    def test_all_lots(self):
        for world in [EVEN, UNEVEN, PARTS] + some_worlds(12, 8):
            lots = lots_of_things(world[0])
            for pair in product(lots, repeat=2):
                found = grouped(world, pair)
                self.assert_same(found, grouped_by_hand(world, pair))
                for at, lot in enumerate(pair):
                    self.assert_same(lot_amount(found, (at,)), lot_amount(world, lot))
                self.assert_same(lot_amount(found, (0, 1)), lot_amount(world, tuple(sorted(set(pair[0] + pair[1])))))
            self.assert_same(grouped(world, tuple(lots[:6])), grouped_by_hand(world, tuple(lots[:6])))

    def test_counts_above_99_are_told_all_the_same(self):
        world = (2, (((0, 0), 99), ((0, 1), 99), ((1, 0), 50), ((1, 1), 49), ((2, 0), 1)))
        found = grouped(world, ((0,), ()))
        self.assert_same(found, (2, (((0, 0), 198), ((1, 0), 99), ((2, 0), 1))))
        self.assert_false(is_world(found))
        great = (1, tuple(((at,), 24) for at in range(40)))
        self.assert_same(grouped(great, ((),)), (1, (((0,), 960),)))

    def test_bad_worlds_and_lots(self):
        for thing in NO_WORLDS:
            self.assert_thing(BadWorld, thing, grouped, thing, ((0,),))
            self.assert_thing(BadWorld, thing, grouped, world=thing, lots="lots")
        for thing in [odd for odd in ODD if odd != ((),)] + [((0,),) * 7, [(0,)], ([0],), ((0, 0),), ((3,),), ((0,), (1, 0)), ((0,), None)]:
            self.assert_thing(BadLots, thing, grouped, EVEN, thing)
        for lot in no_lots(3):
            self.assert_thing(BadLots, (lot,), grouped, EVEN, (lot,))
            self.assert_thing(BadLots, ((0,), lot, (1,)), grouped, world=EVEN, lots=((0,), lot, (1,)))


class TestLedWorld(Checked):

    def test_told_worlds(self):
        self.assert_same(led_world(STEPS, (1, 0)), (2, (((5, 0), 1), ((5, 7), 2))))
        world = (3, (((1, 2, 3), 4), ((5, 6, 7), 8)))
        self.assert_same(led_world(world, (1, 2, 0)), (3, (((3, 1, 2), 4), ((7, 5, 6), 8))))
        self.assert_same(led_world(world=world, renaming=(2, 0, 1)), (3, (((2, 3, 1), 4), ((6, 7, 5), 8))))
        self.assert_same(led_world(world, (0, 1, 2)), world)

    def test_rows_are_sorted_again(self):
        world = (2, (((0, 2), 1), ((1, 1), 2), ((2, 0), 3)))
        self.assert_same(led_world(world, (1, 0)), (2, (((0, 2), 3), ((1, 1), 2), ((2, 0), 1))))

    def test_all_renamings(self):
        for world in [EVEN, UNEVEN, PARTS, SIX] + some_worlds(13, 10):
            for renaming in permutations(range(world[0])):
                found = led_world(world, renaming)
                self.assert_true(is_world(found))
                rows = {}
                for outcome, count in world[1]:
                    led = [None] * world[0]
                    for i, name in enumerate(renaming):
                        led[name] = outcome[i]
                    rows[tuple(led)] = count
                self.assert_same(found, (world[0], tuple(sorted(rows.items()))))

    def test_bad_worlds_and_renamings(self):
        for thing in NO_WORLDS:
            self.assert_thing(BadWorld, thing, led_world, thing, (0, 1, 2))
            self.assert_thing(BadWorld, thing, led_world, world=thing, renaming=None)
        for thing in ODD + [(0, 1), (0, 1, 1), (0, 1, 3), (1, 2, 3), (0, 1, 2, 3), [0, 1, 2], (0, True, 2), (False, 1, 2), (-1, 0, 1),
                            ("0", "1", "2"), (0, 1, None), "012", ((0,), 1, 2), (0, 1, 10 ** 99)]:
            self.assert_thing(BadRenaming, thing, led_world, EVEN, thing)
            self.assert_thing(BadRenaming, thing, led_world, world=EVEN, renaming=thing)
