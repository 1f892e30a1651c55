"""Structures, plain dealings, right dealings and faulty ones, shares that must be ([12.2] to [12.4])."""

import random
import unittest
from itertools import combinations, product

from tests.checks import ODD, Checked
from tests.hand import total_by_hand
from tests.test_copies import with_parts_changed
from tests.test_forms import NO_TABLES, all_lots
from tests.test_worlds import NO_WORLDS, lots_of_things, no_lots, some_worlds
from toldamounts.amounts import amount_of, sign_of
from toldamounts.errors import BadLot, BadNumber, BadStructure, BadWeights, BadWorld, OtherSize
from toldamounts.forms import is_table
from toldamounts.secrets import dealing_holds, is_structure, judge_dealing, judge_shares, opens, plain_dealing, shares_hold
from toldamounts.worlds import is_world, judge_apart, judge_tells, lot_amount

BOTH = (2, ((0, 1),))
ROW = (4, ((0, 1), (1, 2), (2, 3)))
THREE = (3, ((0, 1), (0, 2), (1, 2)))
EITHER = (2, ((0,), (1,)))
RIGHT = ("right",)
NOTHING = ("nothing",)
NO_STRUCTURES = ODD + [
    (1, ((0,),)), (5, ((0, 1),)), (0, ()), (-1, ((0,),)), (True, ((0,),)), ("2", ((0,),)), (None, ((0,),)), (2, ()), (2, ((),)), (2, ((), (0,))),
    [2, ((0,),)], (2, [(0,)]), (2, ([0],)), (2, ((0,), (1,)), ()), (2,), (2, (0, 1)), (2, ((0, 0),)), (2, ((1, 0),)), (2, ((2,),)), (2, ((-1,),)),
    (2, ((True,),)), (2, ((0,), (0,))), (2, ((1,), (0,))), (2, ((0,), (0, 1))), (2, ((0, 1), (1,))), (3, ((0, 1, 2), (1, 2))), (3, ((0,), (1, 2), (2,))),
    (3, ((0, 1), (1, 2), (0, 2))), (2, ((0,), None)), (2, (("0",),)), (2, {(0,): 1}), (2, "01"), (10 ** 99, ((0,),)), (4, ((0, 1), (0, 1, 2))), (2, ((0, 2),)),
]


def all_structures(n):
    """All structures of n sharers."""
    found = [[]]
    for lot in all_lots(n):
        found += [leasts + [lot] for leasts in found if not any(set(each) <= set(lot) or set(lot) <= set(each) for each in leasts)]
    return [(n, tuple(sorted(leasts))) for leasts in found if leasts]


STRUCTURES = {n: all_structures(n) for n in (2, 3, 4)}


def does_open(structure, lot):
    return any(set(least) <= set(lot) for least in structure[1])


def coins_needed(structure):
    return sum(len(least) - 1 for least in structure[1])


def dealing_by_hand(structure):
    """The rows of the plain dealing, each of them worked out from the secret and the coins by itself."""
    n, leasts = structure
    places = [(at, sharer) for at, least in enumerate(leasts) for sharer in least[:-1]]
    rows = []
    for secret, *coins in product((0, 1), repeat=1 + len(places)):
        dealt = dict(zip(places, coins))
        for at, least in enumerate(leasts):
            dealt[at, least[-1]] = (secret + sum(dealt[at, sharer] for sharer in least[:-1])) % 2
        outcome = []
        for sharer in range(n):
            own = [dealt[at, sharer] for at, least in enumerate(leasts) if sharer in least]
            outcome.append(sum(bit * 2 ** place for place, bit in enumerate(own)))
        rows.append((tuple(outcome) + (secret,), 1))
    return n + 1, tuple(sorted(rows))


def faults(structure, world):
    """All certificates of another kind than the first one."""
    n, secret = structure[0], (structure[0],)
    found = [NOTHING] if sign_of(lot_amount(world, secret)) == 0 else []
    for lot in lots_of_things(n):
        if does_open(structure, lot):
            found += [("closed", lot)] if judge_tells(world, lot, secret)[0] == "unlike" else []
        else:
            found += [("leaks", lot)] if judge_apart(world, lot, secret, ())[0] == "unequal" else []
    return found


def share_names(n):
    names = [("secret",)]
    for i in range(n):
        names += [("alone", i, lot) for lot in lots_of_things(n) if i not in lot]
        names += [("shared", i, j, lot) for j in range(i + 1, n) for lot in lots_of_things(n) if i not in lot and j not in lot]
    return sorted(names)


def share_by_hand(structure, name):
    """The factors of what a share name claims, by lots and "s" for the secret, as a dict."""
    def f(*parts):
        lot = tuple(sorted(set().union(*parts)))
        return {lot: 1} if lot else {}
    if name[0] == "secret":
        return {"s": 1}
    lot = name[-1]
    if name[0] == "alone":
        own = does_open(structure, lot + (name[1],)) and not does_open(structure, lot)
        return total_by_hand([(1, f(lot, (name[1],))), (-1, f(lot)), (-int(own), {"s": 1})])
    i, j = (name[1],), (name[2],)
    own = does_open(structure, lot + i) and does_open(structure, lot + j) and not does_open(structure, lot)
    return total_by_hand([(1, f(lot, i)), (1, f(lot, j)), (-1, f(lot, i, j)), (-1, f(lot)), (-int(own), {"s": 1})])


def asked(weights, total):
    return total_by_hand([(k, {(i,): 1}) for i, k in enumerate(weights)] + [(-total, {"s": 1})])


def is_right(structure, weights, total, thing):
    """Whether any value is a right certificate of [12.4]."""
    if thing.__class__ is not tuple or len(thing) != 3 or thing[1].__class__ is not int or thing[1] < 1:
        return False
    names = share_names(structure[0])
    if thing[0] == "sum":
        if thing[2].__class__ is not tuple:
            return False
        for part in thing[2]:
            if part.__class__ is not tuple or len(part) != 2 or repr(part[0]) not in map(repr, names) or part[1].__class__ is not int or part[1] < 1:
                return False
        told = [name for name, _ in thing[2]]
        if told != sorted(set(told)):
            return False
        return total_by_hand([(k, share_by_hand(structure, name)) for name, k in thing[2]]) == total_by_hand([(thing[1], asked(weights, total))])
    if thing[0] != "table" or not is_table(thing[2]) or thing[2][0] != structure[0]:
        return False
    numbers = dict(zip(all_lots(structure[0]), thing[2][1]))
    numbers["s"] = thing[1]
    kept = all(sum(k * numbers[lot] for lot, k in share_by_hand(structure, name).items()) >= 0 for name in names)
    return kept and sum(k * numbers[lot] for lot, k in asked(weights, total).items()) < 0


class TestStructures(Checked):

    def test_all_structures(self):
        self.assertEqual([len(STRUCTURES[n]) for n in (2, 3, 4)], [4, 18, 166])
        for n in (2, 3, 4):
            for structure in STRUCTURES[n]:
                self.assert_true(is_structure(structure))
        for n in (2, 3):
            for size in range(4):
                for leasts in combinations(lots_of_things(3), size):
                    self.assertIs(is_structure((n, tuple(sorted(leasts)))), (n, tuple(sorted(leasts))) in STRUCTURES[n])
        self.assert_true(is_structure(thing=ROW))

    def test_no_structures(self):
        for thing in NO_STRUCTURES:
            self.assert_false(is_structure(thing), thing)
            self.assert_thing(BadStructure, thing, opens, thing, None)
            self.assert_thing(BadStructure, thing, plain_dealing, structure=thing)
            self.assert_thing(BadStructure, thing, judge_dealing, thing, None)
            self.assert_thing(BadStructure, thing, dealing_holds, thing=None, world=None, structure=thing)
            self.assert_thing(BadStructure, thing, judge_shares, thing, None, None)
            self.assert_thing(BadStructure, thing, shares_hold, thing, (0, 0), 0, None)

    def test_opens(self):
        self.assert_false(opens(ROW, (0, 2)))
        self.assert_true(opens(lot=(0, 1, 3), structure=ROW))
        for n in (2, 3, 4):
            for structure in STRUCTURES[n]:
                for lot in lots_of_things(n):
                    self.assertIs(opens(structure, lot), does_open(structure, lot))

    def test_bad_lots(self):
        for structure in (BOTH, ROW):
            for thing in no_lots(structure[0]) + [(structure[0],)]:
                self.assert_thing(BadLot, thing, opens, structure, thing)
                self.assert_thing(BadLot, thing, opens, lot=thing, structure=structure)


class TestPlainDealings(Checked):

    def test_told_dealings(self):
        self.assert_same(plain_dealing(BOTH), (3, (((0, 0, 0), 1), ((0, 1, 1), 1), ((1, 0, 1), 1), ((1, 1, 0), 1))))
        self.assert_same(plain_dealing(structure=EITHER), (3, (((0, 0, 0), 1), ((1, 1, 1), 1))))
        # The sharer 0 gets a coin of each of two lots, the one of (0, 1) first; nothing is dealt to the sharer 3.
        world = plain_dealing((4, ((0, 1), (0, 2))))
        self.assert_same(world, (5, (
            ((0, 0, 0, 0, 0), 1), ((0, 1, 1, 0, 1), 1), ((1, 0, 1, 0, 1), 1), ((1, 1, 0, 0, 0), 1),
            ((2, 0, 1, 0, 0), 1), ((2, 1, 0, 0, 1), 1), ((3, 0, 0, 0, 1), 1), ((3, 1, 1, 0, 0), 1))))

    def test_row_by_row_and_right(self):
        seen = set()
        for n in (2, 3, 4):
            for structure in STRUCTURES[n]:
                if coins_needed(structure) <= 4:
                    seen.add(coins_needed(structure))
                    world = plain_dealing(structure)
                    self.assert_same(world, dealing_by_hand(structure))
                    self.assert_true(is_world(world))
                    self.assertEqual(faults(structure, world), [])
                    self.assert_same(judge_dealing(structure, world), RIGHT)
                    for sharer in range(n):
                        many = sum(sharer in least for least in structure[1])
                        self.assert_same(lot_amount(world, (sharer,)), (1, ((2, many),) if many else ()))
                    self.assert_same(lot_amount(world, (n,)), amount_of(2))
        self.assertEqual(seen, {0, 1, 2, 3, 4})


class TestDealings(Checked):

    def check(self, structure, world):
        found = judge_dealing(structure, world)
        wrong = faults(structure, world)
        self.assertTrue(found in wrong if wrong else found == RIGHT, (structure, world, found))
        self.assert_true(dealing_holds(structure, world, found))
        self.assertIs(dealing_holds(structure, world, RIGHT), not wrong)
        self.assertIs(dealing_holds(structure, world, NOTHING), NOTHING in wrong)
        for lot in lots_of_things(structure[0]):
            for kind in ("closed", "leaks"):
                self.assertIs(dealing_holds(structure, world, (kind, lot)), (kind, lot) in wrong)
        return found[0]

    def test_told_dealings(self):
        self.assertEqual(self.check(BOTH, plain_dealing(BOTH)), "right")
        self.assertEqual(self.check(EITHER, plain_dealing(BOTH)), "closed")
        self.assertEqual(self.check(BOTH, plain_dealing(EITHER)), "leaks")
        self.assertEqual(self.check(BOTH, (3, (((0, 0, 5), 1), ((0, 1, 5), 1), ((7, 1, 5), 3)))), "nothing")
        # The secret of 0 to 2, with counts that are not all equal.
        thirds = (3, tuple(((a, b, (a + b) % 3), 2) for a, b in product(range(3), repeat=2)))
        self.assertEqual(self.check(BOTH, thirds), "right")
        self.assertEqual(self.check(BOTH, (3, thirds[1][:-1] + ((thirds[1][-1][0], 3),))), "leaks")
        uneven = (3, tuple(((a, (a + s) % 2, s), k) for a in (0, 1) for s, k in ((0, 1), (1, 2))))
        self.assertEqual(self.check(BOTH, (3, tuple(sorted(uneven[1])))), "right")
        # Of two sharers, both alone know nothing of the secret, and both together not all of it.
        half = (3, tuple(sorted(((a, b, 2 * c + (a + b) % 2), 1) for a, b, c in product((0, 1), repeat=3))))
        self.assertEqual(self.check(BOTH, half), "closed")

    def test_three_of_which_two_open(self):
        # Lines modulo 3: a sharer's item is that of a line at its place.
        lines = (4, tuple(sorted((((s + k) % 3, (s + 2 * k) % 3, k, s), 1) for s, k in product(range(3), repeat=2))))
        self.assertEqual(self.check(THREE, lines), "right")
        for structure in STRUCTURES[3]:
            self.assertEqual(self.check(structure, lines) == "right", structure == THREE)

    def test_each_structure_with_dealings_for_others(self):
        kinds = {}
        for n in (2, 3):
            for one, other in product(STRUCTURES[n], repeat=2):
                if coins_needed(other) <= 4:
                    kind = self.check(one, plain_dealing(other))
                    kinds[kind] = kinds.get(kind, 0) + 1
                    self.assertEqual(kind == "right", one == other)
        for structure in STRUCTURES[4][::9]:
            self.check(structure, plain_dealing(ROW))
        self.assertEqual(sorted(kinds), ["closed", "leaks", "right"])

    def test_dealings_with_each_kind_of_fault(self):
        choose = random.Random(1)
        kinds = {}
        for world in some_worlds(2, 60):
            if world[0] > 2:
                structure = choose.choice(STRUCTURES[world[0] - 1])
                kind = self.check(structure, world)
                kinds[kind] = kinds.get(kind, 0) + 1
        for n in (2, 3, 4):
            for structure in choose.sample(STRUCTURES[n], 4):
                if coins_needed(structure) <= 4:
                    world = plain_dealing(structure)
                    for at in range(len(world[1])):
                        rows = list(world[1])
                        rows[at] = (rows[at][0], 2)
                        self.check(structure, (n + 1, tuple(rows)))
                        if len(rows) > 1:
                            self.check(structure, (n + 1, tuple(rows[:at] + rows[at + 1:])))
        self.assertGreater(min(kinds.get(kind, 0) for kind in ("closed", "leaks", "nothing")), 2, kinds)

    def test_certificates_with_parts_changed(self):
        worths = [None, True, 0, 1, 2, (), (0,), (1,), (0, 1), [], "right", "nothing", "closed", "leaks"]
        for structure, world in [(EITHER, plain_dealing(BOTH)), (BOTH, plain_dealing(EITHER)), (ROW, plain_dealing((4, ((0, 1), (1, 2)))))]:
            wrong = faults(structure, world)
            for thing in with_parts_changed(judge_dealing(structure, world), worths):
                self.assertIs(dealing_holds(structure, world, thing), repr(thing) in map(repr, wrong), thing)

    def test_any_values(self):
        world = (3, (((0, 0, 0), 1), ((1, 1, 1), 1)))
        for thing in ODD + [
                ["right"], "right", ("right", ()), (RIGHT,), ("nothing",), ("nothing", ()), ["nothing"], ("closed",), ("leaks",), ("leaks", [0]), ["leaks", (0,)],
                ("leaks", (0,), ()), ("leaks", (False,)), ("leaks", (0, 2)), ("leaks", (2,)), ("leaks", ()), ("leaks", 0), ("leaks", None), ("Leaks", (0,)),
                ("closed", (0,)), ("closed", (0, 1)), ("leaks", (0, 1)), ("leaks", (1, 0)), ("leaks", {}), ("leaks", ([],))]:
            self.assert_false(dealing_holds(BOTH, world, thing), thing)
        self.assert_true(dealing_holds(thing=("leaks", (0,)), world=world, structure=BOTH))
        self.assert_true(dealing_holds(BOTH, world, ("leaks", (1,))))
        self.assert_true(dealing_holds(EITHER, world, RIGHT))

    def test_bad_worlds_and_other_sizes(self):
        for call, more in ((judge_dealing, ()), (dealing_holds, (RIGHT,))):
            for thing in NO_WORLDS:
                self.assert_thing(BadWorld, thing, call, BOTH, thing, *more)
            for n in range(1, 7):
                world = (n, (((0,) * n, 1),))
                for structure in (BOTH, THREE, ROW):
                    if n != structure[0] + 1:
                        self.assert_thing(OtherSize, world, call, structure, world, *more)
        self.assert_thing(OtherSize, (2, (((0, 0), 1),)), dealing_holds, thing=None, world=(2, (((0, 0), 1),)), structure=BOTH)


class TestShares(Checked):

    def check(self, structure, weights, total, kind=None):
        found = judge_shares(structure, weights, total)
        self.assertTrue(is_right(structure, weights, total, found), (structure, weights, total, found))
        self.assert_true(shares_hold(structure, weights, total, found))
        if kind:
            self.assertEqual(found[0], kind, (structure, weights, total))
        return found

    def test_told_claims(self):
        self.check(BOTH, (1, 0), 1, "sum")
        self.check(BOTH, (1, 0), 2, "table")
        self.check(ROW, (0, 1, 1, 0), 3, "sum")
        self.check(ROW, (0, 1, 1, 0), 4, "table")
        self.check(ROW, (1, 0, 0, 1), 3, "table")
        self.check(ROW, (1, 0, 0, 1), 2, "sum")
        self.check(THREE, (1, 1, 1), 3, "sum")
        self.check(THREE, (1, 1, 1), 4, "table")
        self.assert_same(judge_shares(structure=BOTH, weights=(0, 0), total=0), ("sum", 1, ()))
        self.check(BOTH, (0, 0), 1, "table")
        self.check(BOTH, (20, 20), 20, "sum")

    def test_each_sharer_that_is_needed_has_the_secrets_amount(self):
        for n in (2, 3, 4):
            for structure in STRUCTURES[n][::1 if n < 4 else 7]:
                for i in range(n):
                    weights = tuple(int(j == i) for j in range(n))
                    needed = any(i in least for least in structure[1])
                    self.check(structure, weights, 1, "sum" if needed else "table")
                    self.check(structure, weights, 0, "sum")

    def test_what_is_shown_is_true_of_right_dealings(self):
        for n in (2, 3, 4):
            for structure in STRUCTURES[n][::1 if n < 4 else 5]:
                if coins_needed(structure) <= 4:
                    many = [sum(i in least for least in structure[1]) for i in range(n)]
                    choose = random.Random(repr(structure))
                    for _ in range(4):
                        weights = tuple(choose.randint(0, 3) for _ in range(n))
                        found = self.check(structure, weights, choose.randint(0, 6))
                        total = sum(k * each for k, each in zip(weights, many))
                        if total < 20:
                            self.check(structure, weights, total + 1, "table")
                        if found[0] == "table":
                            self.assertGreater(found[1], 0)

    def test_any_claims(self):
        choose = random.Random(3)
        kinds = {}
        for _ in range(250):
            n = choose.choice([2, 3, 4, 4])
            structure = choose.choice(STRUCTURES[n])
            weights = tuple(choose.choice([0, 1, 1, 2, choose.randint(0, 20)]) for _ in range(n))
            total = min(20, max(0, sum(weights) + choose.randint(-2, 3)))
            kind = n, self.check(structure, weights, total)[0]
            kinds[kind] = kinds.get(kind, 0) + 1
        self.assertEqual(len(kinds), 6)
        self.assertGreater(min(kinds.values()), 5, kinds)

    def test_the_greatest_that_is_shown(self):
        for structure in STRUCTURES[4][::11]:
            shown = [self.check(structure, (1, 1, 1, 1), total)[0] for total in range(21)]
            self.assertEqual(shown, sorted(shown))
            self.assertEqual({shown[0], shown[-1]}, {"sum", "table"})

    def test_each_share_name(self):
        # The forms of all names, told one by one by certificates that add up to another name's.
        for structure in (BOTH, THREE, ROW):
            n = structure[0]
            for name in share_names(n):
                for weights, total in [((1,) * n, 0), ((2,) * n, 3)]:
                    found = judge_shares(structure, weights, total)
                    if found[0] == "sum":
                        more = dict(found[2])
                        more[name] = more.get(name, 0) + 1
                        thing = ("sum", found[1], tuple(sorted(more.items())))
                        self.assertIs(shares_hold(structure, weights, total, thing), is_right(structure, weights, total, thing))
            for i in range(n):
                # What i has, is at least nought; it is at least the secret's amount if it opens alone.
                weights = tuple(int(j == i) for j in range(n))
                self.assert_true(shares_hold(structure, weights, 0, ("sum", 1, ((("alone", i, ()), 1),))))
        self.assert_true(shares_hold(EITHER, (1, 0), 1, ("sum", 1, ((("alone", 0, ()), 1),))))
        self.assert_false(shares_hold(EITHER, (1, 0), 0, ("sum", 1, ((("alone", 0, ()), 1),))))
        self.assert_true(shares_hold(EITHER, (1, 0), 0, ("sum", 1, ((("alone", 0, ()), 1), (("secret",), 1)))))
        self.assert_true(shares_hold(BOTH, (1, 0), 1, ("sum", 1, ((("alone", 0, (1,)), 1), (("shared", 0, 1, ()), 1)))))
        self.assert_true(shares_hold(EITHER, (0, 0), 0, ("sum", 5, ())))

    def test_certificates_with_parts_changed(self):
        worths = [None, True, False, 0, -1, 1, 2, (), (0,), (1,), [], "sum", "table", ("secret",), ("alone", 0, ()), ("shared", 0, 1, ())]
        right = {"sum": 0, "table": 0}
        for structure, weights, total in [(BOTH, (1, 0), 1), (ROW, (0, 1, 1, 0), 3), (ROW, (1, 0, 0, 1), 3), (THREE, (1, 2, 1), 5), (EITHER, (3, 1), 2)]:
            found = judge_shares(structure, weights, total)
            for thing in with_parts_changed(found, worths):
                wanted = is_right(structure, weights, total, thing)
                right[found[0]] += wanted
                self.assertIs(shares_hold(structure, weights, total, thing), wanted, thing)
        self.assertGreater(min(right.values()), 2, right)

    def test_names_that_are_none(self):
        # Some of them would add nothing to a sum, and yet must not stand in it.
        for structure, weights, total in [(BOTH, (1, 0), 1), (EITHER, (1, 1), 2), (ROW, (0, 1, 1, 0), 3)]:
            _, m, terms = judge_shares(structure, weights, total)
            n = structure[0]
            for name in [("alone", 0, (0,)), ("alone", 1, (0, 1)), ("shared", 0, 1, (0,)), ("shared", 0, 1, (1,)), ("shared", 0, 1, (0, 1)),
                         ("shared", 1, 0, ()), ("shared", 0, 0, ()), ("alone", n, ()), ("alone", 0, (n,)), ("shared", 0, n, ()), ("alone", -1, ()),
                         ("alone", False, ()), ("alone", 0), ("secret", ()), ("shared", 0, 1), ("Alone", 0, ()), ("alone", 0, (), ())]:
                self.assert_false(shares_hold(structure, weights, total, ("sum", m, terms + ((name, 1),))), name)
                self.assert_false(shares_hold(structure, weights, total, ("sum", m, ((name, 1),) + terms)), name)
                self.assert_false(shares_hold(structure, weights, total, ("sum", m, tuple(sorted(terms + ((name, 1),))))), name)
                self.assert_false(shares_hold(structure, (0,) * n, 0, ("sum", 1, ((name, 1),))), name)
                self.assert_false(shares_hold(structure, (0,) * n, 0, ("sum", 1, ((name, 2), (("secret",), 1)))), name)

            # Nor do they take away what others add.
            alone = [(("alone", 0, ()), 1), (("alone", 0, (0,)), 1)]
            self.assert_false(shares_hold(structure, (0,) * structure[0], 0, ("sum", 1, tuple(alone))))
        both = [("alone", 0, ()), ("alone", 0, (1,)), ("alone", 1, ()), ("secret",), ("shared", 0, 1, (0,))]
        self.assert_false(shares_hold(BOTH, (0, 0), 0, ("sum", 1, tuple((name, 1) for name in both))))

    def test_tables_of_other_numbers_of_things(self):
        self.assert_true(shares_hold(BOTH, (1, 0), 2, ("table", 1, (2, (1, 2, 1)))))
        self.assert_false(shares_hold(BOTH, (1, 0), 2, ("table", 1, (3, (1, 2, 2, 1, 1, 1, 1)))))
        for n in (1, 3, 4, 5):
            for k in (1, 2):
                numbers = tuple(k * min(len(lot), 2) for lot in all_lots(n))
                self.assert_false(shares_hold(BOTH, (1, 0), 20, ("table", 1, (n, numbers))))

    def test_multiples(self):
        for structure, weights, total in [(BOTH, (1, 0), 1), (ROW, (0, 1, 1, 0), 3)]:
            _, m, terms = judge_shares(structure, weights, total)
            many = ("sum", m * 10 ** 99, tuple((name, k * 10 ** 99) for name, k in terms))
            self.assert_true(shares_hold(structure, weights, total, many))
        _, s, (n, numbers) = judge_shares(ROW, (1, 0, 0, 1), 3)
        self.assert_true(shares_hold(ROW, (1, 0, 0, 1), 3, ("table", s * 10 ** 99, (n, tuple(k * 10 ** 99 for k in numbers)))))
        self.assert_false(shares_hold(ROW, (1, 0, 0, 1), 3, ("table", 0, (n, (0,) * 15))))
        self.assert_false(shares_hold(ROW, (1, 0, 0, 1), 3, ("table", s * 10 ** 99, (n, numbers))))

    def test_tables_of_dealings(self):
        # The amounts of a right dealing, in units of the secret's, are a table at which all names' claims are true.
        for structure in STRUCTURES[3]:
            if coins_needed(structure) <= 4:
                world = plain_dealing(structure)
                numbers = tuple((lot_amount(world, lot)[1] or ((2, 0),))[0][1] for lot in all_lots(3))
                for total in range(6):
                    wanted = sum(numbers[all_lots(3).index((i,))] for i in range(3)) < total
                    self.assertIs(shares_hold(structure, (1, 1, 1), total, ("table", 1, (3, numbers))), wanted)

    def test_bad_weights_and_totals(self):
        for structure in (BOTH, ROW):
            n = structure[0]
            good = (1,) * n
            for thing in ODD + [good[1:], good + (1,), list(good), (True,) + good[1:], (-1,) + good[1:], (21,) + good[1:], ("1",) + good[1:],
                                (None,) + good[1:], {0: 1}, (10 ** 99,) + good[1:], (good,), (1, ((0,), 1))]:
                self.assert_thing(BadWeights, thing, judge_shares, structure, thing, 1)
                self.assert_thing(BadWeights, thing, judge_shares, structure, thing, None)
                self.assert_thing(BadWeights, thing, shares_hold, thing=None, total=0, weights=thing, structure=structure)
            for thing in [odd for odd in ODD if odd.__class__ is not int or not 0 <= odd <= 20] + [21, -1, True, False, "1", (1,), 10 ** 99]:
                self.assert_thing(BadNumber, thing, judge_shares, structure, good, thing)
                self.assert_thing(BadNumber, thing, shares_hold, thing=None, total=thing, weights=good, structure=structure)
            for total in (0, 20):
                self.check(structure, (20,) * n, total)
                self.check(structure, (0,) * n, total)

    def test_any_values(self):
        for thing in ODD + NO_TABLES + [
                ("sum",), ("sum", 1), ("sum", 0, ()), ("sum", True, ()), ("sum", 1, [], ()), ["sum", 1, ()], ("sum", 1, (), ()), ("Sum", 1, ()), ("sum", -1, ()),
                ("sum", 1, None), ("sum", 1, ((("secret",), 0),)), ("table", 1), ("table", 1, None), ("table", 1, (2, (0, 0, 0)), 0), ("table", True, (2, (0, 0, 0))),
                ("table", 1, (2, (0, 0))), ("table", 1, (3, (0,) * 7)), ("table", "1", (2, (1, 1, 1))), ("table", (2, (1, 1, 1))), ("sum", 1, ((["secret"], 1),))]:
            self.assert_false(shares_hold(BOTH, (1, 0), 2, thing), thing)
            self.assert_false(shares_hold(BOTH, (1, 0), 1, thing), thing)
        for thing in NO_TABLES:
            self.assert_false(shares_hold(BOTH, (1, 0), 2, ("table", 1, thing)), thing)
        self.assert_true(shares_hold(thing=("table", 1, (2, (1, 2, 1))), total=2, weights=(1, 0), structure=BOTH))


if __name__ == "__main__":
    unittest.main()
