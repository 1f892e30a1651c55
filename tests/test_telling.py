"""Certificates of telling and of being apart ([2.4], [2.5])."""

from itertools import product

from tests.checks import ODD, Checked
from tests.test_worlds import EVEN, NO_WORLDS, PARTS, SIX, UNEVEN, counts_by_hand, lots_of_things, no_lots, some_worlds, union
from toldamounts.errors import BadLot, BadWorld
from toldamounts.worlds import apart_holds, given_amount, judge_apart, judge_tells, shared_amount, tells_holds

NOUGHT = (1, ())
TELLS = ("tells",)
APART = ("apart",)
# Of three things that are apart two by two, one row is missing.
LACKING = (3, (((0, 0, 0), 2), ((0, 1, 1), 1), ((1, 0, 0), 1), ((1, 1, 1), 3)))
NO_CERTIFICATES = [odd for odd in ODD if odd not in [TELLS, APART]] + [
    ["tells"], "tells", ("tells", ()), ("Tells",), ("apart", ()), ["apart"], ("unlike",), ("unequal",), (TELLS,), (APART,), ("tell",),
]


def shown(outcome, lot):
    return tuple(outcome[thing] for thing in lot)


def unlike_by_hand(world, one, other):
    """All pairs of positions that certify that the one does not tell the other."""
    rows = [outcome for outcome, _ in world[1]]
    return [(r, s) for r in range(len(rows)) for s in range(r + 1, len(rows))
            if shown(rows[r], one) == shown(rows[s], one) and shown(rows[r], other) != shown(rows[s], other)]


def unequal_by_hand(world, one, other, given):
    """All triples that certify that the two are not apart, given the third."""
    def total(told):
        return sum(count for outcome, count in world[1] if all(shown(outcome, lot) == seen for lot, seen in told))
    found = []
    for a, b, c in product(*[sorted(counts_by_hand(world, lot)) for lot in (one, other, given)]):
        first, second, third = (one, a), (other, b), (given, c)
        if total([first, second, third]) * total([third]) != total([first, third]) * total([second, third]):
            found.append((a, b, c))
    return found


class TestTelling(Checked):

    def test_told_certificates(self):
        self.assert_same(judge_tells(EVEN, (0, 1), (2,)), TELLS)
        self.assert_same(judge_tells(EVEN, (0,), (2,))[0], "unlike")
        self.assert_same(judge_tells(EVEN, (0,), ()), TELLS)
        self.assert_same(judge_tells(EVEN, (0, 1), (1,)), TELLS)
        self.assert_same(judge_tells(world=EVEN, one=(), other=(1,))[0], "unlike")
        self.assert_same(judge_tells((1, (((4,), 3),)), (), (0,)), TELLS)
        self.assert_same(judge_tells((2, (((0, 0), 3), ((0, 1), 1))), (0,), (1,)), ("unlike", 0, 1))
        self.assert_same(judge_tells((2, (((0, 0), 3), ((0, 1), 1))), (1,), (0,)), TELLS)

    def test_all_lots(self):
        for world in [EVEN, UNEVEN, PARTS] + some_worlds(6, 15):
            for one, other in product(lots_of_things(world[0]), repeat=2):
                wrong = unlike_by_hand(world, one, other)
                found = judge_tells(world, one, other)
                if wrong:
                    self.assert_same(found[0], "unlike")
                    self.assertIn(found[1:], wrong)
                else:
                    self.assert_same(found, TELLS)
                self.assertEqual(not wrong, given_amount(world, other, one) == NOUGHT)
                self.assert_true(tells_holds(world, one, other, found))
                self.assertIs(tells_holds(world, one, other, TELLS), not wrong)

    def test_all_pairs_of_positions(self):
        for world in [EVEN, UNEVEN] + some_worlds(7, 6):
            for one, other in product(lots_of_things(world[0]), repeat=2):
                wrong = unlike_by_hand(world, one, other)
                for r, s in product(range(-1, len(world[1]) + 1), repeat=2):
                    self.assertIs(tells_holds(world, one, other, ("unlike", r, s)), (r, s) in wrong)

    def test_nearly_certificates(self):
        world = (2, (((0, 0), 3), ((0, 1), 1), ((1, 1), 1)))
        self.assert_true(tells_holds(world, (0,), (1,), ("unlike", 0, 1)))
        self.assert_true(tells_holds(world=world, one=(0,), other=(1,), thing=("unlike", 0, 1)))
        for thing in [("unlike", 1, 0), ("unlike", 0, 0), ("unlike", False, True), ("unlike", 0, True), ("unlike", False, 1),
                      ["unlike", 0, 1], ("unlike", 0, 1, 1), ("unlike", 0), ("unlike", (0, 1)), ("unlike", [0], [1]), ("unlike", "0", "1"),
                      ("unlike", 0, 2), ("unlike", 0, 3), ("unlike", -3, -2), ("unlike", -3, 1), ("unlike", 0, 10 ** 99), ("unequal", 0, 1),
                      ("unlike", None, None), (0, 1), TELLS, APART, ("unlikes", 0, 1), ("unlike", (0,), (1,)), (["unlike"], 0, 1)]:
            self.assert_false(tells_holds(world, (0,), (1,), thing), thing)
        for thing in NO_CERTIFICATES:
            for one, other in [((0,), (1,)), ((0, 1), (1,)), ((1,), (0,))]:
                self.assert_false(tells_holds(world, one, other, thing), thing)
        self.assert_false(tells_holds(world, (0, 1), (1,), ["tells"]))
        self.assert_true(tells_holds(world, (0, 1), (1,), TELLS))

    def test_bad_worlds_and_lots(self):
        for call, rest in ((judge_tells, ()), (tells_holds, (TELLS,))):
            for thing in NO_WORLDS:
                self.assert_thing(BadWorld, thing, call, thing, (0,), (0,), *rest)
                self.assert_thing(BadWorld, thing, call, thing, None, "other", *rest)
            for world in (EVEN, UNEVEN, SIX):
                for thing in no_lots(world[0]):
                    self.assert_thing(BadLot, thing, call, world, thing, (0,), *rest)
                    self.assert_thing(BadLot, thing, call, world, thing, "other", *rest)
                    self.assert_thing(BadLot, thing, call, world, (0,), thing, *rest)
        self.assert_thing(BadLot, (3,), tells_holds, world=EVEN, one=(0,), other=(3,), thing=None)


class TestApart(Checked):

    def test_told_certificates(self):
        self.assert_same(judge_apart(EVEN, (0,), (1,), ()), APART)
        self.assert_same(judge_apart(EVEN, (0,), (1,), (2,))[0], "unequal")
        self.assert_same(judge_apart(EVEN, (0,), (1, 2), ())[0], "unequal")
        self.assert_same(judge_apart(EVEN, (0, 1), (2,), (0, 1)), APART)
        self.assert_same(judge_apart(world=EVEN, one=(0,), other=(0,), given=())[0], "unequal")
        self.assert_same(judge_apart(EVEN, (0,), (0,), (0,)), APART)
        self.assert_same(judge_apart(EVEN, (), (0,), ()), APART)
        self.assert_same(judge_apart(LACKING, (0,), (1,), ())[0], "unequal")
        self.assert_true(apart_holds(EVEN, (0,), (1,), (2,), ("unequal", (0,), (1,), (0,))))

    def test_counts_matter(self):
        even = (2, (((0, 0), 1), ((0, 1), 2), ((1, 0), 2), ((1, 1), 4)))
        self.assert_same(judge_apart(even, (0,), (1,), ()), APART)
        uneven = (2, (((0, 0), 1), ((0, 1), 2), ((1, 0), 2), ((1, 1), 5)))
        self.assert_same(judge_apart(uneven, (0,), (1,), ())[0], "unequal")
        self.assert_true(apart_holds(uneven, (0,), (1,), (), ("unequal", (0,), (0,), ())))

    def test_all_lots(self):
        for world in [world for world in [EVEN, UNEVEN, PARTS, LACKING] + some_worlds(8, 10) if world[0] < 4]:
            for one, other, given in product(lots_of_things(world[0]), repeat=3):
                wrong = unequal_by_hand(world, one, other, given)
                found = judge_apart(world, one, other, given)
                if wrong:
                    self.assert_same(found[0], "unequal")
                    self.assertIn(found[1:], wrong)
                else:
                    self.assert_same(found, APART)
                self.assertEqual(not wrong, shared_amount(world, one, other, given) == NOUGHT)
                self.assert_true(apart_holds(world, one, other, given, found))
                self.assertIs(apart_holds(world, one, other, given, APART), not wrong)

    def test_all_triples_of_what_is_shown(self):
        for world in [EVEN, LACKING, UNEVEN] + [world for world in some_worlds(9, 6) if world[0] == 2]:
            for one, other, given in [((0,), (1,), ()), ((0,), (0, 1), ()), ((0,), (1,), (0,)), ((0, 1), (1,), (1,)), ((1,), (), (0,))]:
                wrong = unequal_by_hand(world, one, other, given)
                views = [sorted(counts_by_hand(world, lot)) + [(7,) * len(lot)] for lot in (one, other, given)]
                for a, b, c in product(*views):
                    self.assertIs(apart_holds(world, one, other, given, ("unequal", a, b, c)), (a, b, c) in wrong)

    def test_nearly_certificates(self):
        self.assert_true(apart_holds(world=EVEN, one=(0,), other=(1,), given=(2,), thing=("unequal", (1,), (1,), (1,))))
        for thing in [("unequal", (True,), (1,), (1,)), ("unequal", (1,), (True,), (1,)), ("unequal", (1,), (1,), (True,)),
                      ("unequal", [1], (1,), (1,)), ("unequal", (1,), [1], (1,)), ("unequal", (1,), (1,), [1]), ["unequal", (1,), (1,), (1,)],
                      ("unequal", 1, 1, 1), ("unequal", (1,), (1,)), ("unequal", (1,), (1,), (1,), ()), ("unequal", (2,), (1,), (1,)),
                      ("unequal", (1,), (2,), (1,)), ("unequal", (1,), (1,), (2,)), ("unequal", (), (1,), (1,)), ("unequal", (1, 1), (1,), (1,)),
                      ("unequal", ([1],), (1,), (1,)), ("unequal", ({},), (1,), (1,)), ("unequal", (None,), (1,), (1,)), ("unlike", (1,), (1,), (1,)),
                      ((1,), (1,), (1,)), APART, TELLS, ("unequal", {}, {}, {}), ("unequal", ((1,),), (1,), (1,)), (["unequal"], (1,), (1,), (1,))]:
            self.assert_false(apart_holds(EVEN, (0,), (1,), (2,), thing), thing)
        for thing in NO_CERTIFICATES:
            for given in [(), (2,)]:
                self.assert_false(apart_holds(EVEN, (0,), (1,), given, thing), thing)
        self.assert_true(apart_holds(EVEN, (0,), (1,), (), APART))
        self.assert_false(apart_holds(EVEN, (0,), (1,), (), ("unequal", (1,), (1,), ())))

    def test_worlds_of_many_rows(self):
        rows = tuple(((i, j, (i + j) % 6), 1) for i in range(6) for j in range(6))
        world = (3, rows)
        for one, other in [((0,), (1,)), ((0,), (2,)), ((1,), (2,))]:
            self.assert_same(judge_apart(world, one, other, ()), APART)
            given = union((0, 1, 2))[3 - sum(one + other)]
            found = judge_apart(world, one, other, (given,))
            self.assert_same(found[0], "unequal")
            self.assert_true(apart_holds(world, one, other, (given,), found))

    def test_bad_worlds_and_lots(self):
        for call, rest in ((judge_apart, ()), (apart_holds, (APART,))):
            for thing in NO_WORLDS:
                self.assert_thing(BadWorld, thing, call, thing, (0,), (0,), (), *rest)
                self.assert_thing(BadWorld, thing, call, thing, None, "other", 3, *rest)
            for world in (EVEN, UNEVEN):
                for thing in no_lots(world[0]):
                    self.assert_thing(BadLot, thing, call, world, thing, (0,), (), *rest)
                    self.assert_thing(BadLot, thing, call, world, thing, "other", "given", *rest)
                    self.assert_thing(BadLot, thing, call, world, (0,), thing, "given", *rest)
                    self.assert_thing(BadLot, thing, call, world, (0,), (), thing, *rest)
        self.assert_thing(BadLot, (3,), apart_holds, world=EVEN, one=(0,), other=(1,), given=(3,), thing=None)
