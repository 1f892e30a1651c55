"""Points seen from sides, weights that they keep, and the world of points ([10.1] to [10.3])."""

import random
import unittest
from itertools import product

from tests.checks import ODD, Checked
from tests.test_copies import with_parts_changed
from tests.test_forms import all_lots
from tests.test_worlds import no_lots
from toldamounts.amounts import amount_of, is_below
from toldamounts.errors import BadNumber, BadPoints, BadWeights
from toldamounts.forms import is_table
from toldamounts.sides import cover_holds, is_points, judge_cover, keeps_weights, points_world, sizes_of
from toldamounts.worlds import is_world, lot_amount

CORNER = ((0, 0, 0), (0, 0, 1), (0, 1, 0), (1, 0, 0))
SIDES = (2, (((0, 1), 1), ((0, 2), 1), ((1, 2), 1)))
GOOD_POINTS = [
    CORNER, ((0, 0),), ((999, 999, 999, 999),), tuple((at, 0) for at in range(40)), ((0, 5), (1, 5)), ((3, 1), (3, 2), (4, 0)),
]
NO_POINTS = [odd for odd in ODD if odd not in [()]] + [
    (), ((),), ((0,),), ((0,), (1,)), ((0, 0, 0, 0, 0),), ((0, 0), (0, 0)), ((0, 1), (0, 0)), ((0, 0), (0, 0, 1)), ((0, 0, 1), (0, 1)),
    ((0, 1000),), ((0, -1),), ((True, 0),), ((0, False),), ([0, 0],), [(0, 0)], ((0, "0"),), ((0, None),), ("00",), (0, 0), ((0, 0), None),
    tuple((at, 0) for at in range(41)), {(0, 0): 1}, (((0, 0), 1),), ((0, 10 ** 99),), ((0, 0), ((0, 1),)), "points",
]
NO_WEIGHTS = ODD + [
    (0, ()), (21, ()), (True, ()), ("1", ()), (1,), (1, (), ()), [1, ()], (1, []), (1, ((0,), 1)), (1, (((), 1),)), (1, (((0,), 0),)),
    (1, (((0,), 21),)), (1, (((0,), True),)), (1, (((0,), -1),)), (1, (((0,), None),)), (1, (((0,), 1), ((0,), 1))), (1, (((0,), 1), ((0,), 2))),
    (1, (((1,), 1), ((0,), 1))), (1, (((0, 1), 1), ((0,), 1))), (1, (([0], 1),)), (1, ([(0,), 1],)), (1, (((0,), 1, 1),)), (1, (((0,),),)),
    (1, (((4,), 1),)), (1, (((-1,), 1),)), (1, (((1, 0), 1),)), (1, (((0, 0), 1),)), (1, (((True,), 1),)), (-1, ()), (10 ** 99, ()),
    (1, {(0,): 1}), (1, (((0,), 10 ** 99),)), (1, (((0,), 1), None)), (1, "weights"),
]
GOOD_ODD = [(1, ())]


def some_points(n, seed, many, most=3):
    """Points of n directions, at most 40 of them."""
    choose = random.Random(seed)
    found = []
    for _ in range(many):
        size = choose.choice([1, 2, 5, 12, 40])
        points = {tuple(choose.choice([0, 1, most, 999]) if size > 12 else choose.randint(0, most) for _ in range(n)) for _ in range(size)}
        found.append(tuple(sorted(points)))
    return found


def some_weights(n, seed, many):
    """Weights for n directions."""
    choose = random.Random(seed)
    found = [(1, ()), (20, tuple((lot, 20) for lot in all_lots(n)))]
    for _ in range(many):
        lots = [lot for lot in all_lots(n) if choose.random() < 0.4]
        found.append((choose.randint(1, choose.choice([2, 5, 20])), tuple((lot, choose.randint(1, choose.choice([1, 3, 20]))) for lot in lots)))
    return found


def size_by_hand(points, lot):
    return len({tuple(point[i] for i in lot) for point in points})


def is_kept(points, weights):
    bound = 1
    for lot, k in weights[1]:
        bound *= size_by_hand(points, lot) ** k
    return len(points) ** weights[0] <= bound


def shorts(n, weights):
    """The directions for which the integers of the lots that have it add up to less than m."""
    return [i for i in range(n) if sum(k for lot, k in weights[1] if i in lot) < weights[0]]


class TestPoints(Checked):

    def test_points(self):
        for thing in GOOD_POINTS + some_points(2, 1, 10) + some_points(4, 2, 10):
            self.assert_true(is_points(thing), thing)
        self.assert_true(is_points(thing=CORNER))

    def test_no_points(self):
        for thing in NO_POINTS:
            self.assert_false(is_points(thing), thing)
            self.assert_thing(BadPoints, thing, sizes_of, thing)
            self.assert_thing(BadPoints, thing, sizes_of, points=thing)
            self.assert_thing(BadPoints, thing, points_world, thing)
            self.assert_thing(BadPoints, thing, points_world, points=thing)
            self.assert_thing(BadPoints, thing, keeps_weights, thing, None)
            self.assert_thing(BadPoints, thing, keeps_weights, weights=SIDES, points=thing)

    def test_each_number_of_directions(self):
        for n in range(7):
            self.assertIs(is_points(((0,) * n,)), 2 <= n <= 4)

    def test_sizes(self):
        self.assert_same(sizes_of(CORNER), (3, (2, 3, 4, 3, 2, 3, 2)))
        self.assert_same(sizes_of(points=((7, 999),)), (2, (1, 1, 1)))
        for n in (2, 3, 4):
            for points in some_points(n, 3 + n, 40):
                self.assert_same(sizes_of(points), (n, tuple(size_by_hand(points, lot) for lot in all_lots(n))))
                self.assert_true(is_table(sizes_of(points)))

    def test_world(self):
        self.assert_same(points_world(((0, 5), (1, 5))), (2, (((0, 5), 1), ((1, 5), 1))))
        for n in (2, 3, 4):
            for points in some_points(n, 8 + n, 25):
                world = points_world(points)
                self.assert_same(world, (n, tuple((point, 1) for point in points)))
                self.assert_true(is_world(world))
                self.assert_same(lot_amount(world, tuple(range(n))), amount_of(len(points)))
                for lot, size in zip(all_lots(n), sizes_of(points)[1]):
                    self.assert_false(is_below(amount_of(size), lot_amount(world, lot)))


class TestKeepsWeights(Checked):

    def test_told_points(self):
        self.assert_true(keeps_weights(CORNER, SIDES))
        self.assert_true(keeps_weights(points=CORNER, weights=SIDES))
        self.assert_false(keeps_weights(CORNER, (2, SIDES[1][:2])))
        # With no lot named, one point keeps all weights, and two none.
        for m in (1, 20):
            self.assert_true(keeps_weights(((4, 4),), (m, ())))
            self.assert_false(keeps_weights(((4, 4), (4, 5)), (m, ())))

    def test_equality_at_told_ranges(self):
        for ranges in [(2, 3), (1, 7), (2, 3, 4), (3, 3, 3), (2, 2, 2, 2), (1, 5, 2, 4)]:
            n = len(ranges)
            points = tuple(product(*[range(many) for many in ranges]))
            sides = tuple(sorted((tuple(j for j in range(n) if j != i), 1) for i in range(n)))
            # The sides without one direction each: n - 1 of them have a direction.
            for m, kept in ((n - 1, True), (n, all(many == 1 for many in ranges))):
                self.assertIs(keeps_weights(points, (m, sides)), kept)
            self.assertEqual(judge_cover(n, (n - 1, sides)), ("cover",))
            self.assertEqual(judge_cover(n, (n, sides)), ("short", 0))

    def test_any_points_and_weights(self):
        kinds = {True: 0, False: 0}
        for n in (2, 3, 4):
            for at, points in enumerate(some_points(n, 20 + n, 30)):
                for weights in some_weights(n, 30 + at, 12):
                    wanted = is_kept(points, weights)
                    kinds[wanted] += 1
                    self.assertIs(keeps_weights(points, weights), wanted)
        self.assertGreater(min(kinds.values()), 100)

    def test_weights_that_cover_are_kept_and_others_are_broken(self):
        for n in (2, 3, 4):
            for weights in some_weights(n, 40 + n, 60):
                if not shorts(n, weights):
                    for points in some_points(n, 50 + n, 10):
                        self.assert_true(keeps_weights(points, weights))
                for i in range(n):
                    two = tuple(tuple(7 + at if j == i else 7 for j in range(n)) for at in (0, 1))
                    self.assertIs(keeps_weights(two, weights), i not in shorts(n, weights))

    def test_bad_weights(self):
        for n in (2, 3, 4):
            points = ((0,) * n,)
            for thing in [odd for odd in NO_WEIGHTS if odd not in GOOD_ODD] + [(1, (((n,), 1),)), (1, (((0, n), 1),))]:
                self.assert_thing(BadWeights, thing, keeps_weights, points, thing)
                self.assert_thing(BadWeights, thing, keeps_weights, weights=thing, points=points)
                self.assert_thing(BadWeights, thing, judge_cover, n, thing)
                self.assert_thing(BadWeights, thing, cover_holds, n, thing, ("cover",))
                self.assert_thing(BadWeights, thing, cover_holds, thing=None, weights=thing, n=n)
            for lot in no_lots(n):
                self.assert_thing(BadWeights, (1, ((lot, 1),)), judge_cover, n, (1, ((lot, 1),)))
            for m in (1, 20):
                self.assert_true(keeps_weights(points, (m, ((tuple(range(n)), m),))))


class TestCover(Checked):

    def check(self, n, weights):
        found = judge_cover(n, weights)
        wrong = shorts(n, weights)
        if wrong:
            self.assertEqual((found[0], len(found)), ("short", 2))
            self.assertTrue(found[1].__class__ is int and found[1] in wrong)
        else:
            self.assert_same(found, ("cover",))
        self.assert_true(cover_holds(n, weights, found))
        self.assertIs(cover_holds(n, weights, ("cover",)), not wrong)
        for i in range(-1, 6):
            self.assertIs(cover_holds(n, weights, ("short", i)), i in wrong)
        return found[0]

    def test_told_weights(self):
        self.assert_same(judge_cover(3, SIDES), ("cover",))
        self.assert_same(judge_cover(weights=(2, (((0, 1), 2), ((1, 2), 1))), n=3), ("short", 2))
        self.assert_false(cover_holds(2, (1, (((0,), 1),)), ("short", 0)))
        self.assert_true(cover_holds(thing=("short", 1), weights=(1, (((0,), 1),)), n=2))

    def test_any_weights(self):
        kinds = {"cover": 0, "short": 0}
        for n in (2, 3, 4):
            for weights in some_weights(n, 60 + n, 200):
                kinds[self.check(n, weights)] += 1
        self.assertGreater(min(kinds.values()), 50)

    def test_integers_that_add_up_to_just_m(self):
        for n in (2, 3, 4):
            for m in range(1, 21):
                for weights in [tuple(((i,), m) for i in range(n)), ((tuple(range(n)), m),)]:
                    self.assertEqual(self.check(n, (m, weights)), "cover")
                    if m < 20:
                        self.assertEqual(self.check(n, (m + 1, weights)), "short")
                if m > 1:
                    both = (((0,), 1),) + ((tuple(range(n)), m - 1),) + tuple(((i,), 1) for i in range(1, n))
                    self.assertEqual(self.check(n, (m, both)), "cover")
                    for at in range(n + 1):
                        self.assertEqual(self.check(n, (m, both[:at] + both[at + 1:])), "short")

    def test_any_values(self):
        short = (1, (((0,), 1),))
        for thing in ODD + [
                ["cover"], ("cover", ()), ("Cover",), "cover", (("cover",),), ("short",), ("short", 1, 1), ["short", 1], ("short", True), ("short", "1"),
                ("short", None), ("short", (1,)), ("short", 10 ** 99), ("short", -1), ("short", 2), ("short", 0), ("short", []), ("Short", 1)]:
            self.assert_false(cover_holds(2, short, thing), thing)
        self.assert_true(cover_holds(2, short, ("short", 1)))
        self.assert_false(cover_holds(2, (1, ()), ("short", False)))
        self.assert_true(cover_holds(2, (1, ()), ("short", 0)))

    def test_weights_with_parts_changed(self):
        worths = [None, True, 0, 1, 20, 21, (), (0,), (0, 1), (3,), [], ((0,), 1)]
        right = 0
        for thing in with_parts_changed((2, (((0, 1), 1), ((1, 2), 20))), worths):
            try:
                found = judge_cover(3, thing)
            except BadWeights as error:
                self.assert_same(error.thing, thing)
                self.assert_thing(BadWeights, thing, keeps_weights, CORNER, thing)
            else:
                right += 1
                self.assert_same(found, ("short", shorts(3, thing)[0]) if shorts(3, thing) else ("cover",))
                self.assertIs(keeps_weights(CORNER, thing), is_kept(CORNER, thing))
        self.assertGreater(right, 5)

    def test_bad_numbers(self):
        for thing in [odd for odd in ODD] + [5, 0, 1, -2, True, "3", (3,), 10 ** 99]:
            self.assert_thing(BadNumber, thing, judge_cover, thing, None)
            self.assert_thing(BadNumber, thing, judge_cover, weights=SIDES, n=thing)
            self.assert_thing(BadNumber, thing, cover_holds, thing, SIDES, ("cover",))


if __name__ == "__main__":
    unittest.main()
