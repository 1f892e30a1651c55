"""Blocks, the amount of the common part, and whether it is as much as is shared ([12.1])."""

import random
import unittest
from itertools import product

from tests.checks import ODD, Checked
from tests.test_copies import with_parts_changed
from tests.test_worlds import EVEN, NO_WORLDS, ONE, PARTS, SIX, UNEVEN, counts_by_hand, lots_of_things, no_lots, some_worlds
from toldamounts.amounts import is_below, spread
from toldamounts.commonparts import blocks_of, common_amount, common_holds, judge_common
from toldamounts.errors import BadLot, BadWorld
from toldamounts.worlds import lot_amount, shared_amount

EQUAL = ("equal",)
BENT = (2, (((0, 0), 2), ((0, 1), 1), ((1, 1), 1)))
# Two blocks, in the second of which both are apart, with a pair that no row shows in the first one.
TWO = (2, (((0, 0), 1), ((0, 1), 1), ((1, 1), 1), ((2, 2), 3), ((2, 3), 6), ((3, 2), 1), ((3, 3), 2)))
FUNCTIONS = [(blocks_of, ()), (common_amount, ()), (judge_common, ()), (common_holds, (None,))]


def blocks_by_hand(world, one, other):
    """The blocks, by going from each thing that is shown along all links."""
    links = {}
    for outcome, _ in world[1]:
        a, b = (0, tuple(outcome[i] for i in one)), (1, tuple(outcome[i] for i in other))
        links.setdefault(a, set()).add(b)
        links.setdefault(b, set()).add(a)
    found = set()
    for start in links:
        seen, todo = {start}, [start]
        while todo:
            for each in links[todo.pop()] - seen:
                seen.add(each)
                todo.append(each)
        found.add(tuple(tuple(sorted(shown for kind, shown in seen if kind == side)) for side in (0, 1)))
    return tuple(sorted(found))


def counts_of_blocks(world, one, other):
    """The sums of the counts by block."""
    blocks = blocks_by_hand(world, one, other)
    return [sum(count for outcome, count in world[1] if tuple(outcome[i] for i in one) in block[0]) for block in blocks]


def unequal_by_hand(world, one, other):
    """All pairs that are certificates of the second kind."""
    found = []
    first, second = counts_by_hand(world, one), counts_by_hand(world, other)
    for block, total in zip(blocks_by_hand(world, one, other), counts_of_blocks(world, one, other)):
        for a, b in product(*block):
            both = sum(count for outcome, count in world[1] if tuple(outcome[i] for i in one) == a and tuple(outcome[i] for i in other) == b)
            if both * total != first[a] * second[b]:
                found.append((a, b))
    return found


def some_linked_worlds(seed, many):
    """Worlds of three things in which the first two have several blocks, some of them with products of counts."""
    choose = random.Random(seed)
    found = []
    for _ in range(many):
        rows = {}
        for block in range(choose.randint(1, 3)):
            first = [choose.randint(1, 3) for _ in range(choose.randint(1, 3))]
            second = [choose.randint(1, 3) for _ in range(choose.randint(1, 3))]
            for (a, k), (b, n) in product(enumerate(first), enumerate(second)):
                if choose.random() < 0.97:
                    rows[10 * block + a, 10 * block + b, choose.choice([0, 0, 1])] = k * n
        if rows:
            found.append((3, tuple(sorted(rows.items()))))
    return found


WORLDS = [EVEN, ONE, UNEVEN, PARTS, SIX, BENT, TWO]


class TestBlocks(Checked):

    def test_told_blocks(self):
        self.assert_same(blocks_of(PARTS, (0,), (1,)), ((((0,), (1,)), ((0,), (1,))), (((2,),), ((2,),))))
        self.assert_same(blocks_of(world=TWO, one=(0,), other=(1,)), ((((0,), (1,)), ((0,), (1,))), (((2,), (3,)), ((2,), (3,)))))
        self.assert_same(blocks_of(PARTS, (), (1,)), ((((),), ((0,), (1,), (2,))),))
        self.assert_same(blocks_of(PARTS, (1,), ()), ((((0,), (1,), (2,)), ((),)),))
        self.assert_same(blocks_of(PARTS, (), ()), ((((),), ((),)),))
        self.assert_same(blocks_of(PARTS, (0,), (0,)), ((((0,),), ((0,),)), (((1,),), ((1,),)), (((2,),), ((2,),))))
        self.assert_same(common_amount(PARTS, (0,), (1,)), (1, ((2, 1),)))
        self.assert_same(common_amount(world=PARTS, one=(), other=(1,)), (1, ()))

    def test_a_link_that_comes_late_joins_blocks(self):
        # The last row links what three rows ahead of it kept apart.
        world = (2, (((0, 1), 1), ((1, 2), 1), ((2, 3), 1), ((3, 1), 1), ((3, 2), 1), ((3, 3), 1)))
        self.assert_same(blocks_of(world, (0,), (1,)), ((((0,), (1,), (2,), (3,)), ((1,), (2,), (3,))),))
        # What both lots show may be alike and yet not be the same.
        world = (2, (((0, 1), 1), ((1, 0), 1)))
        self.assert_same(blocks_of(world, (0,), (1,)), ((((0,),), ((1,),)), (((1,),), ((0,),))))

    def test_all_pairs_of_lots(self):
        for world in WORLDS + some_worlds(1, 15) + some_linked_worlds(2, 12):
            for one, other in product(lots_of_things(min(world[0], 4)), repeat=2):
                self.assert_same(blocks_of(world, one, other), blocks_by_hand(world, one, other))
                counts = counts_of_blocks(world, one, other)
                self.assertEqual(sum(counts), sum(count for _, count in world[1]))
                self.assert_same(common_amount(world, one, other), spread(tuple(counts)))

    def test_bounds(self):
        for world in WORLDS + some_worlds(3, 20):
            for one, other in product(lots_of_things(min(world[0], 3)), repeat=2):
                amount = common_amount(world, one, other)
                self.assert_same(amount, common_amount(world, other, one))
                self.assert_false(is_below(shared_amount(world, one, other, ()), amount))
                # Both lots tell what they have in common.
                both = tuple(sorted(set(one) & set(other)))
                self.assert_false(is_below(amount, lot_amount(world, both)))
                if set(one) <= set(other):
                    self.assert_same(amount, lot_amount(world, one))


class TestCommon(Checked):

    def check(self, world, one, other):
        found = judge_common(world, one, other)
        wrong = unequal_by_hand(world, one, other)
        equal = common_amount(world, one, other) == shared_amount(world, one, other, ())
        self.assertEqual(equal, not wrong)
        if wrong:
            self.assertEqual((found[0], len(found)), ("unequal", 3))
            self.assertIn(found[1:], wrong)
        else:
            self.assert_same(found, EQUAL)
        self.assert_true(common_holds(world, one, other, found))
        self.assertIs(common_holds(world, one, other, EQUAL), not wrong)
        return wrong

    def test_told_certificates(self):
        self.assert_same(judge_common(PARTS, (0,), (1,)), EQUAL)
        self.assertEqual(judge_common(BENT, (0,), (1,))[0], "unequal")
        self.assertEqual(judge_common(world=TWO, one=(0,), other=(1,))[0], "unequal")
        self.assert_same(judge_common(TWO, (), (1,)), EQUAL)
        self.assert_same(judge_common(TWO, (0,), (0, 1)), EQUAL)

    def test_what_no_row_shows_both_of(self):
        self.assert_true(common_holds(BENT, (0,), (1,), ("unequal", (1,), (0,))))
        self.assert_true(common_holds(TWO, (0,), (1,), ("unequal", (1,), (0,))))
        # Of two blocks, no row shows both, and yet it is no certificate.
        self.assert_false(common_holds(TWO, (0,), (1,), ("unequal", (0,), (2,))))
        self.assert_false(common_holds(TWO, (0,), (1,), ("unequal", (2,), (2,))))
        self.assert_false(common_holds(PARTS, (0,), (1,), ("unequal", (0,), (2,))))

    def test_all_pairs_of_lots_and_of_what_they_show(self):
        kinds = {True: 0, False: 0}
        for world in [EVEN, ONE, UNEVEN, PARTS, BENT, TWO] + some_worlds(4, 15) + some_linked_worlds(5, 15):
            for one, other in product(lots_of_things(world[0]), repeat=2):
                wrong = self.check(world, one, other)
                kinds[bool(wrong)] += 1
                for a, b in product(sorted(counts_by_hand(world, one)) + [(77,)], sorted(counts_by_hand(world, other)) + [()]):
                    self.assertIs(common_holds(world, one, other, ("unequal", a, b)), (a, b) in wrong)
        self.assertGreater(min(kinds.values()), 100)

    def test_certificates_with_parts_changed(self):
        worths = [None, True, False, 0, 1, 2, (), (0,), (1,), (0, 1), [], "equal", "unequal"]
        for world in (BENT, TWO):
            wrong = unequal_by_hand(world, (0,), (1,))
            for thing in with_parts_changed(judge_common(world, (0,), (1,)), worths):
                wanted = repr(thing) in [repr(("unequal",) + pair) for pair in wrong]
                self.assertIs(common_holds(world, (0,), (1,), thing), wanted, thing)

    def test_any_values(self):
        for thing in ODD + [
                ["equal"], "equal", ("equal", ()), (EQUAL,), ("unequal",), ("unequal", (1,)), ("unequal", (1,), (0,), ()), ["unequal", (1,), (0,)],
                ("unequal", [1], (0,)), ("unequal", (True,), (0,)), ("unequal", (1,), (False,)), ("unequal", 1, 0), ("unequal", None, None),
                ("unequal", {}, []), ("Unequal", (1,), (0,)), ("unequal", (10 ** 99,), (0,)), ("unequal", ("1",), (0,)), ("unequal", (1,), ([],)),
                ("apart",), ("unequal", (-1,), (0,)), ("unequal", (1,), (0, 0)), ("unequal", ((1,),), (0,))]:
            self.assert_false(common_holds(BENT, (0,), (1,), thing), thing)
        self.assert_true(common_holds(thing=("unequal", (1,), (0,)), other=(1,), one=(0,), world=BENT))
        self.assert_false(common_holds(BENT, (0,), (1,), EQUAL))
        self.assert_true(common_holds(BENT, (0,), (0, 1), EQUAL))

    def test_bad_worlds_and_lots(self):
        for call, more in FUNCTIONS:
            for thing in NO_WORLDS:
                self.assert_thing(BadWorld, thing, call, thing, (0,), (1,), *more)
                self.assert_thing(BadWorld, thing, call, thing, None, None, *more)
            for world in (BENT, EVEN):
                for thing in no_lots(world[0]):
                    self.assert_thing(BadLot, thing, call, world, thing, (0,), *more)
                    self.assert_thing(BadLot, thing, call, world, thing, None, *more)
                    self.assert_thing(BadLot, thing, call, world, (0,), thing, *more)
        self.assert_thing(BadLot, (2,), blocks_of, other=None, one=(2,), world=BENT)
        self.assert_thing(BadLot, [0], common_holds, thing=EQUAL, other=[0], one=(0,), world=BENT)


if __name__ == "__main__":
    unittest.main()
