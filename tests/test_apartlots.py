"""Sayings, steps, odd worlds, and what follows from sayings ([9.1] to [9.4])."""

import random
import unittest
from itertools import combinations, product

from tests.checks import ODD, Checked
from tests.test_copies import with_parts_changed
from tests.test_worlds import lots_of_things, some_worlds
from toldamounts.apartlots import is_saying, judge_saying, odd_world, saying_holds, sayings_from
from toldamounts.errors import BadLot, BadNumber, BadSaying, BadSayings
from toldamounts.worlds import is_world, judge_apart, lot_amount

NO_SIZES = [odd for odd in ODD if odd.__class__ is not int or odd not in (5,)] + [0, 1, 6, -1, True, "2", (2,), 2 * 10 ** 99]
STEPS = ((((0,), (1,)), ("told",)), (((0, 1), (2,)), ("told",)), (((0,), (1, 2)), ("more", 0, 1)))
NO_SAYINGS = ODD + [
    ((0,), ()), ((), (1,)), ((), ()), ((1,), (0,)), ((0,), (0,)), ((0,), (0, 1)), ((0, 1), (1, 2)), ((0,), (9,)), ((-1,), (0,)),
    ((False,), (1,)), ((0,), (True,)), ([0], (1,)), ((0,), [1]), [(0,), (1,)], ((0,), (1,), (2,)), ((0,),), ((1, 0), (2,)), ((0,), (2, 1)),
    ((0,), (1, 1)), (0, 1), ("0", "1"), ((0,), None), ((0, 1), (2, 1)), {(0,): (1,)}, (("0",), ("1",)), ((1, 2), (0,)), "sayings",
]


def all_sayings(n):
    """All sayings about n things, ascending."""
    lots = [lot for lot in lots_of_things(n) if lot]
    return sorted((one, other) for one, other in product(lots, repeat=2) if one < other and not set(one) & set(other))


def divides(saying, lot):
    one, other = map(set, saying)
    return set(lot) <= one | other and bool(set(lot) & one) and bool(set(lot) & other)


def odd_lots(n, sayings, saying):
    """All lots that a saying divides and none of the told ones does."""
    return [lot for lot in lots_of_things(n) if divides(saying, lot) and not any(divides(told, lot) for told in sayings)]


def is_int_in(thing, low, high):
    return thing.__class__ is int and low <= thing <= high


def is_right_step(sayings, earlier, saying, reason):
    """Whether a reason is right, with all orders of the lots tried."""
    if reason.__class__ is not tuple or not reason or reason[0].__class__ is not str:
        return False
    if not all(is_int_in(at, 0, len(earlier) - 1) for at in reason[1:]):
        return False
    if (reason[0], len(reason)) == ("told", 1):
        return saying in sayings
    if (reason[0], len(reason)) == ("less", 2):
        one, other = map(set, saying)
        first, second = map(set, earlier[reason[1]])
        return one <= first and other <= second or one <= second and other <= first
    if (reason[0], len(reason)) != ("more", 3):
        return False
    for a, b in (earlier[reason[1]], earlier[reason[1]][::-1]):
        for both, c in (earlier[reason[2]], earlier[reason[2]][::-1]):
            if set(both) == set(a) | set(b) and {frozenset(lot) for lot in saying} == {frozenset(a), frozenset(b) | frozenset(c)}:
                return True
    return False


def is_right(n, sayings, saying, thing):
    """Whether any value is a right certificate of [9.4]."""
    if thing.__class__ is not tuple or len(thing) != 2 or thing[0].__class__ is not str:
        return False
    if thing[0] == "odd":
        return repr(thing[1]) in map(repr, odd_lots(n, sayings, saying))
    if thing[0] != "steps" or thing[1].__class__ is not tuple or not thing[1]:
        return False
    earlier = []
    for step in thing[1]:
        if step.__class__ is not tuple or len(step) != 2 or repr(step[0]) not in map(repr, all_sayings(n)):
            return False
        if not is_right_step(sayings, earlier, *step):
            return False
        earlier.append(step[0])
    return earlier[-1] == saying


def some_sayings(n, seed, many):
    """Told sayings about n things, none to eight of them."""
    choose = random.Random(seed)
    found = [()]
    for at in range(many):
        told = [choose.choice(all_sayings(n)) for _ in range(at % 9)]
        found.append(tuple(told))
    return found


def chained(order):
    """Sayings that things, one after the other, know nothing of all that stand ahead."""
    found = []
    for at in range(1, len(order)):
        found.append(tuple(sorted([tuple(sorted(order[:at])), (order[at],)])))
    return tuple(found)


class TestIsSaying(Checked):

    def test_all_sayings(self):
        for n in range(2, 6):
            wanted = all_sayings(n)
            self.assertEqual(len(wanted), (3 ** n - 2 ** (n + 1) + 1) // 2)
            for one, other in product(lots_of_things(5), repeat=2):
                self.assertIs(is_saying(n, (one, other)), (one, other) in wanted)
        self.assert_true(is_saying(n=3, thing=((0,), (1, 2))))
        self.assert_false(is_saying(3, ((1, 2), (0,))))

    def test_no_sayings(self):
        for n in range(2, 6):
            for thing in NO_SAYINGS:
                self.assert_false(is_saying(n, thing), thing)

    def test_bad_numbers(self):
        for n in NO_SIZES:
            self.assert_thing(BadNumber, n, is_saying, n, ((0,), (1,)))
            self.assert_thing(BadNumber, n, is_saying, thing=None, n=n)
            self.assert_thing(BadNumber, n, odd_world, n, None)
            self.assert_thing(BadNumber, n, judge_saying, n, None, None)
            self.assert_thing(BadNumber, n, saying_holds, n, (), ((0,), (1,)), None)
            self.assert_thing(BadNumber, n, sayings_from, n, ())
            self.assert_thing(BadNumber, n, sayings_from, sayings=None, n=n)


class TestOddWorlds(Checked):

    def test_told_worlds(self):
        self.assert_same(odd_world(2, (0, 1)), (2, (((0, 0), 1), ((1, 1), 1))))
        self.assert_same(odd_world(n=4, lot=(1, 2, 3)), (4, (
            ((0, 0, 0, 0), 1), ((0, 0, 1, 1), 1), ((0, 1, 0, 1), 1), ((0, 1, 1, 0), 1))))

    def test_row_by_row(self):
        for n in range(2, 6):
            for lot in lots_of_things(n):
                if len(lot) >= 2:
                    rows = [row for row in product((0, 1), repeat=n) if sum(row) % 2 == 0 and not any(row[i] for i in range(n) if i not in lot)]
                    self.assert_same(odd_world(n, lot), (n, tuple((row, 1) for row in rows)))
                    self.assert_true(is_world(odd_world(n, lot)))
                    self.assert_same(lot_amount(odd_world(n, lot), lot), (1, ((2, len(lot) - 1),)))

    def test_it_keeps_what_does_not_divide_the_lot(self):
        for n in range(2, 6):
            for lot in lots_of_things(n):
                if len(lot) >= 2:
                    for one, other in all_sayings(n):
                        kept = judge_apart(odd_world(n, lot), one, other, ()) == ("apart",)
                        self.assertIs(kept, not divides((one, other), lot))

    def test_bad_lots(self):
        for n in range(2, 6):
            for lot in [odd for odd in ODD if odd != (1, 2, 3) or n < 4] + [(0,), (n - 1,), (0, n), (1, 0), (0, 0), (0, True), [0, 1], (-1, 0), ("0", "1")]:
                self.assert_thing(BadLot, lot, odd_world, n, lot)
                self.assert_thing(BadLot, lot, odd_world, lot=lot, n=n)


class TestJudgeSaying(Checked):

    def check(self, n, sayings, saying, kind=None):
        found = judge_saying(n, sayings, saying)
        self.assertTrue(is_right(n, sayings, saying, found), (n, sayings, saying, found))
        self.assert_true(saying_holds(n, sayings, saying, found))
        odd = odd_lots(n, sayings, saying)
        self.assertEqual(found[0], "odd" if odd else "steps")
        if kind:
            self.assertEqual(found[0], kind)
        return found

    def test_told_certificates(self):
        self.assert_same(judge_saying(3, (((0,), (1,)),), ((0,), (2,))), ("odd", (0, 2)))
        self.check(3, (((0,), (1,)), ((0, 1), (2,))), ((0,), (1, 2)), "steps")
        self.check(3, (((0,), (1,)), ((0, 1), (2,))), ((0, 2), (1,)), "steps")
        # Things that know nothing of one another by pairs may do so by three.
        pairs = (((0,), (1,)), ((0,), (2,)), ((1,), (2,)))
        self.assert_same(self.check(3, pairs, ((0, 1), (2,)), "odd"), ("odd", (0, 1, 2)))
        self.assert_same(judge_saying(saying=((0,), (1,)), sayings=(((0,), (1,)),), n=2), ("steps", ((((0,), (1,)), ("told",)),)))
        self.check(2, (((0,), (1,)),) * 8, ((0,), (1,)), "steps")

    def test_all_sayings_from_none_to_eight_told_ones(self):
        for n, many in ((2, 9), (3, 36), (4, 27), (5, 18)):
            kinds = {"steps": 0, "odd": 0}
            for sayings in some_sayings(n, n, many):
                wanted = tuple(saying for saying in all_sayings(n) if not odd_lots(n, sayings, saying))
                self.assert_same(sayings_from(n, sayings), wanted)
                for saying in all_sayings(n):
                    kinds[self.check(n, sayings, saying)[0]] += 1
            self.assertGreater(min(kinds.values()), 1, kinds)

    def test_things_that_are_told_one_after_the_other(self):
        for order in [(0, 1, 2, 3, 4), (4, 2, 0, 3, 1), (3, 4, 1, 0, 2)]:
            for n in range(2, 6):
                sayings = chained([thing for thing in order if thing < n])
                self.assert_same(sayings_from(n, sayings), tuple(all_sayings(n)))
                for saying in all_sayings(n):
                    self.check(n, sayings, saying, "steps")
                for left in range(len(sayings)):
                    self.assertLess(len(sayings_from(n, sayings[:left] + sayings[left + 1:])), len(all_sayings(n)))

    def test_worlds_that_keep_told_sayings_keep_what_follows(self):
        choose = random.Random(4)
        for world in some_worlds(5, 120) + [odd_world(5, (0, 2, 3)), odd_world(4, (0, 1, 2, 3))]:
            n = world[0]
            kept = [saying for saying in all_sayings(n) if judge_apart(world, saying[0], saying[1], ()) == ("apart",)]
            for many in range(9):
                sayings = tuple(choose.sample(kept, min(many, len(kept))))
                self.assertLessEqual(set(sayings_from(n, sayings)), set(kept))

    def test_odd_worlds_break_what_does_not_follow(self):
        for n, many in ((3, 18), (5, 9)):
            for sayings in some_sayings(n, 9, many):
                for saying in all_sayings(n):
                    found = judge_saying(n, sayings, saying)
                    if found[0] == "odd":
                        world = odd_world(n, found[1])
                        for one, other in sayings:
                            self.assert_same(judge_apart(world, one, other, ()), ("apart",))
                        self.assertEqual(judge_apart(world, saying[0], saying[1], ())[0], "unequal")

    def test_from_none(self):
        for n in range(2, 6):
            self.assert_same(sayings_from(n, ()), ())
            self.assert_same(sayings_from(sayings=(), n=n), ())
            for saying in all_sayings(n):
                self.check(n, (), saying, "odd")

    def test_bad_sayings(self):
        good = ((0,), (1,))
        for n in range(2, 6):
            for thing in [odd for odd in ODD if odd != ()] + [[good], (good,) * 9, good, (good, None), (good, [(0,), (1,)]), {good: 1}] + [
                    (good, thing) for thing in NO_SAYINGS] + [(((0,), (n,)),)]:
                self.assert_thing(BadSayings, thing, judge_saying, n, thing, None)
                self.assert_thing(BadSayings, thing, saying_holds, n, thing, good, None)
                self.assert_thing(BadSayings, thing, sayings_from, sayings=thing, n=n)
            for thing in NO_SAYINGS + [((0,), (n,))]:
                self.assert_thing(BadSaying, thing, judge_saying, n, (good,), thing)
                self.assert_thing(BadSaying, thing, saying_holds, n, (), thing, ("odd", (0, 1)))
                self.assert_thing(BadSaying, thing, judge_saying, saying=thing, sayings=(), n=n)


class TestSayingHolds(Checked):

    def test_told_certificates(self):
        sayings = (((0,), (1,)), ((0, 1), (2,)))
        self.assert_true(saying_holds(3, sayings, ((0,), (1, 2)), ("steps", STEPS)))
        self.assert_true(saying_holds(thing=("steps", STEPS), saying=((0,), (1, 2)), sayings=sayings, n=3))
        self.assert_false(saying_holds(3, sayings, ((0,), (1,)), ("steps", STEPS)))
        self.assert_false(saying_holds(3, sayings[:1], ((0,), (1, 2)), ("steps", STEPS)))
        self.assert_true(saying_holds(3, sayings, ((0,), (1,)), ("steps", STEPS[:1])))
        self.assert_true(saying_holds(3, sayings, ((0, 1), (2,)), ("steps", STEPS[:2])))
        self.assert_false(saying_holds(3, sayings, ((0,), (1, 2)), ("steps", STEPS[1:])))
        self.assert_false(saying_holds(3, sayings, ((0,), (1, 2)), ("steps", ())))

    def test_more_in_each_order(self):
        # A, B and C stand in either order in the two earlier steps, whichever is the lesser one.
        for a, b, c in product([lot for lot in lots_of_things(5) if lot], repeat=3):
            if set(a) & set(b) or set(a) & set(c) or set(b) & set(c):
                continue
            both = tuple(sorted(a + b))
            first, second = tuple(sorted([a, b])), tuple(sorted([both, c]))
            for lead, other in ((a, b), (b, a)):
                last = tuple(sorted([lead, tuple(sorted(other + c))]))
                steps = ((first, ("told",)), (second, ("told",)), (last, ("more", 0, 1)))
                self.assert_true(saying_holds(5, (first, second), last, ("steps", steps)))
                self.assert_false(saying_holds(5, (first, second), last, ("steps", steps[:2] + ((last, ("more", 1, 0)),))))
            # C alone is not led to both sides.
            if tuple(sorted([c, both])) != tuple(sorted([a, tuple(sorted(b + c))])):
                wrong = tuple(sorted([c, a]))
                self.assert_false(saying_holds(5, (first, second), wrong, ("steps", ((first, ("told",)), (second, ("told",)), (wrong, ("more", 0, 1))))))

    def test_less_in_each_order(self):
        for saying in all_sayings(5)[::3]:
            for less in all_sayings(5):
                one, other = map(set, less)
                first, second = map(set, saying)
                wanted = one <= first and other <= second or one <= second and other <= first
                steps = ((saying, ("told",)), (less, ("less", 0)))
                self.assertIs(saying_holds(5, (saying,), less, ("steps", steps)), wanted)

    def test_steps_with_parts_changed(self):
        worths = [None, True, False, -1, 0, 1, 2, 3, "less", "more", ("told",), ("less", 0), ("more", 0, 1), (), [], ((0,), (1,)), (2,)]
        right = 0
        for n, sayings, saying in [
                (3, (((0,), (1,)), ((0, 1), (2,))), ((0,), (1, 2))), (3, (((0,), (1,)), ((0, 1), (2,))), ((0,), (2,))),
                (4, chained((0, 1, 2, 3)), ((0, 2), (1, 3))), (5, chained((4, 1, 0, 3, 2)), ((0, 2), (1, 3, 4)))]:
            found = judge_saying(n, sayings, saying)
            for thing in with_parts_changed(found, worths):
                wanted = is_right(n, sayings, saying, thing)
                right += wanted
                self.assertIs(saying_holds(n, sayings, saying, thing), wanted, thing)
        self.assertGreater(right, 5)

    def test_each_position_changed(self):
        sayings, saying = chained((0, 1, 2, 3)), ((0, 2), (1, 3))
        steps = judge_saying(4, sayings, saying)[1]
        self.assertGreater(len(steps), 4)
        for at, (told, reason) in enumerate(steps):
            for place in range(1, len(reason)):
                for other in list(range(-2, len(steps) + 2)) + [True, False, None, "0", (0,)]:
                    changed = (told, reason[:place] + (other,) + reason[place + 1:])
                    thing = ("steps", steps[:at] + (changed,) + steps[at + 1:])
                    self.assertIs(saying_holds(4, sayings, saying, thing), is_right(4, sayings, saying, thing), thing)
            # A step left out, or with itself or a later one in the place of an earlier one.
            thing = ("steps", steps[:at] + steps[at + 1:])
            self.assertIs(saying_holds(4, sayings, saying, thing), is_right(4, sayings, saying, thing))
            self.assert_false(saying_holds(4, sayings, saying, ("steps", steps[:at] + ((told, ("less", at)),) + steps[at + 1:])))
            self.assert_false(saying_holds(4, sayings, saying, ("steps", steps[:at] + ((told, ("less", at + 1)),) + steps[at + 1:])))

    def test_long_steps(self):
        told = ((0,), (1,))
        steps = ((told, ("told",)),) + tuple((told, ("less", at)) for at in range(59))
        self.assert_true(saying_holds(2, (told,), told, ("steps", steps)))
        self.assert_true(saying_holds(2, (told,), told, ("steps", steps[:30] + ((told, ("told",)),))))
        self.assert_false(saying_holds(2, (), told, ("steps", steps)))

    def test_odd_lots(self):
        for n, many in ((2, 5), (3, 18), (4, 18), (5, 9)):
            right = 0
            for sayings in some_sayings(n, 20 + n, many):
                for saying in all_sayings(n)[::2]:
                    wanted = odd_lots(n, sayings, saying)
                    right += len(wanted)
                    for lot in lots_of_things(n):
                        self.assertIs(saying_holds(n, sayings, saying, ("odd", lot)), lot in wanted)
            self.assertGreater(right, 0)
        # A lot of some of the saying's things, and one with another thing.
        self.assert_true(saying_holds(5, (), ((0, 1), (2, 3)), ("odd", (1, 2))))
        self.assert_true(saying_holds(5, (), ((0, 1), (2, 3)), ("odd", (0, 1, 3))))
        self.assert_false(saying_holds(5, (), ((0, 1), (2, 3)), ("odd", (1, 2, 4))))
        self.assert_false(saying_holds(5, (), ((0, 1), (2, 3)), ("odd", (0, 1))))
        self.assert_false(saying_holds(5, (((0, 4), (3,)),), ((0, 1), (2, 3)), ("odd", (0, 3))))

    def test_any_values(self):
        for thing in ODD + [
                ("odd",), ("odd", (0, 1), ()), ["odd", (0, 1)], ("odd", [0, 1]), ("odd", (1, 0)), ("odd", (0, True)), ("odd", (0, 0)), ("odd", ()),
                ("odd", (False, 1)), ("odd", (0,)), ("odd", (0, 5)), ("odd", None), ("Odd", (0, 1)), ("steps",), ("steps", None), ("steps", ()),
                ("steps", []), ["steps", STEPS], ("steps", list(STEPS)), ("steps", STEPS, 1), ("steps", (STEPS,)), ("steps", ((((0,), (1,)), "told"),)),
                ("steps", ((((0,), (1,)), ["told"]),)), ("steps", ((((0,), (1,)),),)), ("steps", ((((0,), (1,)), ("told",), 0),)),
                ("steps", ((((1,), (0,)), ("told",)),)), ("steps", (None,)), ("steps", ({},)), ("steps", ((((0,), (1,)), ()),)),
                ("steps", ((((0,), (1,)), None),)), ("steps", ((((0,), (1,)), ("told", 0)),)), ("steps", ((((0,), (1,)), ({},)),)), ("steps", "told"),
        ]:
            self.assert_false(saying_holds(2, (((0,), (1,)),), ((0,), (1,)), thing), thing)
        self.assert_true(saying_holds(2, (((0,), (1,)),), ((0,), (1,)), ("steps", ((((0,), (1,)), ("told",)),))))
        self.assert_true(saying_holds(2, (), ((0,), (1,)), ("odd", (0, 1))))
        for word in ("Odd", "even", "steps", "told", None, 0, ("odd",), ["odd"], True):
            self.assert_false(saying_holds(2, (), ((0,), (1,)), (word, (0, 1))))
        for word in ("Steps", "odd", "told", None, 0, ("steps",)):
            self.assert_false(saying_holds(2, (((0,), (1,)),), ((0,), (1,)), (word, ((((0,), (1,)), ("told",)),))))

    def test_all_pairs_of_two_things(self):
        for lots in combinations(lots_of_things(2), 2):
            self.assertIs(is_saying(2, tuple(sorted(lots))), sorted(lots) == [(0,), (1,)])


if __name__ == "__main__":
    unittest.main()
