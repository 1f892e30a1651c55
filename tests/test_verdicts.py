"""Worlds of systems, four rows, and verdicts of all three kinds ([8.3])."""

import random
import unittest
from itertools import permutations, product

from tests.checks import ODD, Checked
from tests.hand import (
    FOURS, TABLES, form_by_hand, four_by_hand, is_named_list, named_by_hand, nearly, rank_of_fractions, system_by_hand,
    told_names_by_hand, total_by_hand, value_by_hand,
)
from tests.test_basics import names_by_hand
from tests.test_copies import UNLIKE, copy_by_hand, shared, with_parts_changed
from tests.test_forms import all_lots, some_forms
from tests.test_spaceforms import NO_FORMS_OF_FOUR
from tests.test_spaces import some_systems
from tests.test_worlds import EVEN, GREATEST, NO_WORLDS, counts_by_hand, some_worlds
from toldamounts.errors import BadForm, BadNumber, BadPrime, BadSystem
from toldamounts.forms import times_form
from toldamounts.makingworlds import led_world
from toldamounts.spaceforms import four_form
from toldamounts.spaces import ranks_of
from toldamounts.toldlots import told_names, told_system
from toldamounts.verdicts import drawn_holds, four_rows, judge_drawn, system_world
from toldamounts.weighing import weigh
from toldamounts.worlds import is_world, lot_amount

ROWS = (4, (((0, 0, 0, 0), 1), ((1, 0, 0, 1), 1), ((1, 0, 1, 0), 1), ((1, 1, 1, 1), 1)))
OPEN = ("open",)
NAMES = sorted(names_by_hand(4) + [("copy", i, j) for i, j in UNLIKE])
NO_SYSTEMS = ODD + [
    (2, 1, ((), (), ())), (2, 1, ((), (), (), (), ())), (2, 0, ((), (), (), ())), (2, 9, ((), (), (), ())), (4, 1, ((), (), (), ())),
    (2, 1, (((2,),), (), (), ())), (2, 1, (((0, 1),), (), (), ())), (2, 1, (((True,),), (), (), ())), (2, 1, ([], (), (), ())),
    (True, 1, ((), (), (), ())), (2, True, ((), (), (), ())), [2, 1, ((), (), (), ())], (2, 1, (((1,),) * 9, (), (), ())),
]


def drawn_by_hand(name):
    """The factors of the form that a name of a verdict names."""
    return copy_by_hand(name[1], name[2]) if name[0] == "copy" else named_by_hand(4, name)


def world_by_hand(d, rows):
    """The world of a system over 2 with so many figures and the rows of each thing."""
    counts = {}
    for figures in product((0, 1), repeat=d):
        outcome = []
        for own in rows:
            bits = "".join(str(sum(a * b for a, b in zip(row, figures)) % 2) for row in own)
            outcome.append(int(bits[::-1] or "0", 2))
        counts[tuple(outcome)] = counts.get(tuple(outcome), 0) + 1
    return 4, tuple(sorted(counts.items()))


def is_below(form, world):
    """Whether a form is below nought in a world, worked out by whole powers."""
    more = less = 1
    total = sum(count for _, count in world[1])
    for lot, factor in form[1]:
        for number, k in [(total, total)] + [(count, -count) for count in counts_by_hand(world, lot).values()]:
            if k * factor > 0:
                more *= number ** (k * factor)
            else:
                less *= number ** (-k * factor)
    return more < less


TOLD_WORLDS = [world_by_hand(*system_by_hand(name)) for name in told_names_by_hand(4)]
TOLD_WORLDS += [led_world(ROWS, renaming) for renaming in permutations(range(4))]


def is_open(form):
    """Whether there is neither a sum, which a table shows, nor a told world."""
    if any(is_below(form, world) for world in TOLD_WORLDS):
        return False
    m, numbers = weigh([[drawn_by_hand(name).get(lot, 0) for lot in all_lots(4)] for name in NAMES],
                       [dict(form[1]).get(lot, 0) for lot in all_lots(4)])
    if m:
        return False
    table = dict(zip(all_lots(4), numbers))
    assert all(sum(k * table[lot] for lot, k in drawn_by_hand(name).items()) >= 0 for name in NAMES)
    assert value_by_hand(form, table) < 0
    return True


def is_right(form, thing):
    """Whether a value is a right certificate of [8.3], worked out by hand."""
    if thing.__class__ is not tuple or not thing:
        return False
    if thing[0] == "sum" and len(thing) == 3:
        _, m, terms = thing
        if m.__class__ is not int or m < 1 or terms.__class__ is not tuple:
            return False
        if not all(pair.__class__ is tuple and len(pair) == 2 and repr(pair[0]) in map(repr, NAMES) for pair in terms):
            return False
        if not is_named_list(terms, NAMES):
            return False
        return total_by_hand([(k, drawn_by_hand(name)) for name, k in terms]) == {lot: m * k for lot, k in form[1]}
    if thing[0] == "world" and len(thing) == 2:
        return is_world(thing[1]) and thing[1][0] == 4 and is_below(form, thing[1])
    return thing == OPEN and is_open(form)


def beyond(s):
    """A form that is below nought in no world (F. Matus 2007); it is one of those by copies for s = 1, and no sum of them else."""
    k = s * (s + 1) // 2
    return form_by_hand(4, [
        (s, four_by_hand(0, 1)), (1, shared([0], [1], [2])), (k, shared([1], [2], [0])), (k, shared([0], [2], [1]))])


def some_sums(seed, many):
    """Sums of a few basic forms and forms by copies."""
    choose = random.Random(seed)
    for at in range(many):
        names = choose.sample(names_by_hand(4), at % 5) + [("copy", i, j) for i, j in choose.sample(UNLIKE, at % 3)]
        yield form_by_hand(4, [(choose.randint(1, 3), drawn_by_hand(name)) for name in names])


class TestSystemWorlds(Checked):

    def test_told_worlds(self):
        self.assert_same(system_world((2, 1, (((1,),), (), (), ((1,),)))), (4, (((0, 0, 0, 0), 1), ((1, 0, 0, 1), 1))))
        self.assert_same(system_world(system=(2, 1, ((), (), (), ()))), (4, (((0, 0, 0, 0), 2),)))
        # The first row counts 1, the next one 2; of the tuples (0, 0), (0, 1), (1, 0), (1, 1).
        self.assert_same(system_world((2, 2, (((1, 0), (0, 1)), ((1, 1),), ((0, 0), (0, 1)), ()))), (4, (
            ((0, 0, 0, 0), 1), ((1, 1, 0, 0), 1), ((2, 1, 2, 0), 1), ((3, 0, 2, 0), 1))))
        self.assert_same(system_world((2, 5, (((1, 0, 0, 0, 0),), (), (), ()))), (4, (((0, 0, 0, 0), 16), ((1, 0, 0, 0), 16))))
        self.assert_same(system_world((2, 1, (((1,),) * 8, (), (), ()))), (4, (((0, 0, 0, 0), 1), ((255, 0, 0, 0), 1))))
        for name, world in zip(told_names_by_hand(4), TOLD_WORLDS):
            self.assert_same(system_world(told_system(2, name)), world)
        self.assertEqual(len(told_names(4)), 35)

    def test_row_by_row_and_amounts_of_all_lots(self):
        for d in range(1, 6):
            for system in some_systems(2, d, 70 + d, 25):
                world = system_world(system)
                self.assert_same(world, world_by_hand(d, system[2]))
                self.assert_true(is_world(world))
                self.assertEqual(sum(count for _, count in world[1]), 2 ** d)
                for lot, rank in zip(all_lots(4), ranks_of(system)[1]):
                    self.assert_same(lot_amount(world, lot), (1, ((2, rank),) if rank else ()))

    def test_ranks_over_2_are_not_always_those_of_fractions(self):
        system = (2, 3, (((1, 1, 0),), ((0, 1, 1),), ((1, 0, 1),), ()))
        self.assert_same(lot_amount(system_world(system), (0, 1, 2)), (1, ((2, 2),)))
        self.assertEqual(rank_of_fractions([rows[0] for rows in system[2][:3]]), 3)

    def test_bad_systems_primes_and_numbers(self):
        for thing in NO_SYSTEMS:
            self.assert_thing(BadSystem, thing, system_world, thing)
            self.assert_thing(BadSystem, thing, system_world, system=thing)
        for p in (3, 5, 7):
            for d in (1, 5, 6, 8):
                self.assert_thing(BadPrime, p, system_world, (p, d, ((), (), (), ())))
        for d in (6, 7, 8):
            self.assert_thing(BadNumber, d, system_world, system=(2, d, ((), (), (), ())))


class TestFourRows(Checked):

    def test_four_rows(self):
        self.assert_same(four_rows(), ROWS)
        self.assert_true(is_world(four_rows()))
        self.assertEqual(len(set(TOLD_WORLDS)), 35 + len({led_world(ROWS, renaming) for renaming in permutations(range(4))}))

    def test_forms_of_four_at_once_and_renamings(self):
        for renaming in permutations(range(4)):
            world = led_world(four_rows(), renaming)
            pair = tuple(sorted(renaming[:2]))
            for _, i, j in FOURS:
                self.assertIs(is_below(four_form(i, j), world), (i, j) == pair)
                self.assertIs(drawn_holds(four_form(i, j), ("world", world)), (i, j) == pair)


class TestJudgeDrawn(Checked):

    def check(self, form, kind=None):
        found = judge_drawn(form)
        self.assertIn((found[0], len(found)), [("sum", 3), ("world", 2), ("open", 1)])
        self.assertTrue(is_right(form, found), (form, found))
        self.assert_true(drawn_holds(form, found))
        self.assertIs(drawn_holds(form, OPEN), is_open(form))
        if found[0] == "sum":
            self.assertFalse(any(is_below(form, world) for world in TOLD_WORLDS))
        if kind:
            self.assertEqual(found[0], kind, form)
        return found[0]

    def test_told_verdicts(self):
        self.check((4, ()), "sum")
        for i, j in UNLIKE:
            self.check(form_by_hand(4, [(1, copy_by_hand(i, j))]), "sum")
            self.check(form_by_hand(4, [(-1, copy_by_hand(i, j))]), "world")
        for _, i, j in FOURS:
            self.check(four_form(i, j), "world")
        for name in names_by_hand(4):
            self.check(form_by_hand(4, [(1, named_by_hand(4, name))]), "sum")
            self.check(form_by_hand(4, [(-20, named_by_hand(4, name))]), "world")
        self.check(beyond(1), "sum")
        self.check(beyond(2), "open")
        self.check(beyond(3), "open")

    def test_sums_and_multiples_and_such_with_one_factor_changed(self):
        kinds = {"sum": 0, "world": 0, "open": 0}
        for at, form in enumerate(some_sums(1, 24)):
            self.check(form, "sum")
            self.check(times_form(form, 3), "sum")
            for other in list(nearly(form))[at % 7::7]:
                kinds[self.check(other)] += 1
        self.assertGreater(kinds["world"], 10)

    def test_forms_near_those_that_are_open(self):
        kinds = {"sum": 0, "world": 0, "open": 0}
        choose = random.Random(2)
        for at in range(120):
            pairs = [(choose.randint(0, 2), named_by_hand(4, name)) for name in choose.sample(names_by_hand(4), 4)]
            kinds[self.check(form_by_hand(4, [(1, four_by_hand(*choose.choice(FOURS)[1:]))] + pairs))] += 1
            if at % 12 == 0:
                for other in list(nearly(beyond(2)))[at // 12::10]:
                    kinds[self.check(other)] += 1
        self.assertGreater(min(kinds.values()), 5, kinds)

    def test_any_forms(self):
        for form in some_forms(4, 3, 40, 20):
            self.check(form)

    def test_each_told_world_is_needed(self):
        # Of each told lot, the form that tells how far a table is from it is broken there.
        for name in told_names_by_hand(4):
            numbers = TABLES[4][name]
            self.check((4, tuple((lot, -numbers[lot]) for lot in all_lots(4) if numbers[lot])), "world")

    def test_bad_forms(self):
        for thing in NO_FORMS_OF_FOUR:
            self.assert_thing(BadForm, thing, judge_drawn, thing)
            self.assert_thing(BadForm, thing, judge_drawn, form=thing)
            self.assert_thing(BadForm, thing, drawn_holds, thing, OPEN)
            self.assert_thing(BadForm, thing, drawn_holds, thing=None, form=thing)


class TestDrawnHolds(Checked):

    def test_worlds_that_are_no_told_ones(self):
        kinds = {True: 0, False: 0}
        for world in some_worlds(11, 60) + [GREATEST, EVEN]:
            for form in some_forms(4, 5, 6, 3) + [four_form(0, 1)]:
                if world[0] != 4:
                    self.assert_false(drawn_holds(form, ("world", world)))
        choose = random.Random(6)
        for _ in range(40):
            rows = sorted({tuple(choose.randint(0, 2) for _ in range(4)) for _ in range(choose.randint(1, 12))})
            world = (4, tuple((row, choose.randint(1, 6)) for row in rows))
            for form in some_forms(4, choose.randint(0, 10 ** 6), 3, 4) + [four_form(0, 1), beyond(2)]:
                wanted = is_below(form, world)
                kinds[wanted] += 1
                self.assertIs(drawn_holds(form, ("world", world)), wanted)
        self.assertGreater(min(kinds.values()), 30)

    def test_four_rows_with_other_counts(self):
        below = 0
        for counts in product((1, 2, 3, 50), repeat=4):
            world = (4, tuple((row, count) for (row, _), count in zip(ROWS[1], counts)))
            wanted = is_below(four_form(0, 1), world)
            below += wanted
            self.assertIs(drawn_holds(four_form(0, 1), ("world", world)), wanted)
        self.assertGreater(below, 5)
        self.assertLess(below, 250)

    def test_great_worlds(self):
        choose = random.Random(7)
        rows = sorted({tuple(choose.randint(0, 11) for _ in range(4)) for _ in range(40)})
        world = (4, tuple((row, 24) for row in rows[:-1]) + ((rows[-1], 61),))
        self.assert_true(is_world(world))
        form = (4, tuple((lot, 20) for lot in all_lots(4)))
        self.assert_false(drawn_holds(form, ("world", world)))
        self.assert_true(drawn_holds(times_form(form, -1), ("world", world)))

    def test_exactly_nought_is_not_below(self):
        for form in [four_form(2, 3), form_by_hand(4, [(1, shared([0], [1], [2]))]), (4, ())]:
            world = (4, (((0, 0, 0, 0), 3), ((1, 1, 1, 1), 5)))
            self.assertIs(drawn_holds(form, ("world", world)), is_below(form, world))
            self.assert_false(drawn_holds(form, ("world", (4, (((5, 5, 5, 5), 7),)))))

    def test_sums_with_one_part_changed(self):
        worths = [None, True, False, 0, -1, 2, "sum", "copy", (), [], ("copy", 0, 0), ("copy", 0, 4), ("four", 0, 1), ("copy", True, 2)]
        for form in list(some_sums(8, 6)) + [form_by_hand(4, [(1, copy_by_hand(1, 3)), (2, copy_by_hand(3, 1))])]:
            found = judge_drawn(form)
            for thing in with_parts_changed(found, worths):
                self.assertIs(drawn_holds(form, thing), is_right(form, thing), thing)

    def test_names_of_the_forms_by_copies(self):
        for i, j in product(range(-1, 5), repeat=2):
            form = form_by_hand(4, [(1, copy_by_hand(i, j))]) if (i, j) in UNLIKE else (4, ())
            self.assertIs(drawn_holds(form, ("sum", 1, ((("copy", i, j), 1),))), (i, j) in UNLIKE)
        form = form_by_hand(4, [(1, copy_by_hand(0, 1))])
        for name in [("copy", False, True), ("copy", 0, True), ("copy", 0, 1, ()), ("copy", 0), ["copy", 0, 1], ("copy", "0", 1), ("Copy", 0, 1)]:
            self.assert_false(drawn_holds(form, ("sum", 1, ((name, 1),))))
        self.assert_false(drawn_holds(four_form(0, 1), ("sum", 1, ((("four", 0, 1), 1),))))
        self.assert_true(drawn_holds(form=times_form(form, 2), thing=("sum", 10 ** 99, ((("copy", 0, 1), 2 * 10 ** 99),))))

    def test_any_values(self):
        below = times_form(form_by_hand(4, [(1, {(0, 1, 2, 3): 1})]), -1)
        for thing in NO_WORLDS:
            self.assert_false(drawn_holds(below, ("world", thing)), thing)
        for thing in ODD + [
                ["open"], "open", ("open", ()), (OPEN,), ("Open",), ("world",), ("world", ROWS, ROWS), ["world", ROWS], ("world", list(ROWS)),
                ("sum", 1), ("sum", 1, (), ()), ("broken", ("hit", (0,))), ("table", (4, (1,) * 15)), ROWS]:
            for form in [below, (4, ()), beyond(2), four_form(0, 1)]:
                self.assert_false(drawn_holds(form, thing), thing)
        self.assert_true(drawn_holds(below, ("world", ROWS)))
        for word in ("worlds", "World", "sum", "open", None, 0, ("world",), ["world"], True):
            self.assert_false(drawn_holds(below, (word, ROWS)))
        self.assert_true(drawn_holds(beyond(2), OPEN))
        for form in [below, (4, ()), four_form(0, 1)]:
            self.assert_false(drawn_holds(form, OPEN))


if __name__ == "__main__":
    unittest.main()
