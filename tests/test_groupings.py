"""Groupings, meets, amounts, values of forms, worlds, and five orders ([7.3], [7.4], [7.5])."""

import random
from itertools import permutations

from tests.checks import ODD, Checked
from tests.hand import PAIRS, four_by_hand, form_by_hand, some_named_sums, told_names_by_hand
from tests.test_basics import names_by_hand
from tests.test_forms import NO_FORMS, all_lots, some_forms
from tests.test_groups import NO_MOTIONS, SWAP, TURN, members_by_hand, some_makers, then_by_hand
from tests.test_worlds import lots_of_things, no_lots
from toldamounts.amounts import amount_of, is_amount, minus, plus, sign_of, times
from toldamounts.basics import basic_form
from toldamounts.coins import breaking_world
from toldamounts.errors import BadForm, BadGrouping, BadLot, BadNumber, OtherSize
from toldamounts.groupings import five_orders, group_amount, group_value, grouping_world, is_grouping, meet_of
from toldamounts.spaceforms import four_form
from toldamounts.toldlots import told_table
from toldamounts.worlds import is_world, lot_amount

SWAPS = (3, ((1, 0, 2), (1, 2, 0)), (((1, 0, 2),), ((0, 2, 1),)))
ONE = (1, (), ((),))
STILL = (0, 1, 2)
SQUARE = (4, ((1, 2, 3, 0), (0, 3, 2, 1)), (((1, 2, 3, 0),), ((0, 3, 2, 1),), ((1, 0, 3, 2), (3, 2, 1, 0))))
FIVE = (5, (SWAP, TURN), (
    ((0, 1, 3, 4, 2), (1, 0, 2, 4, 3)), ((1, 2, 3, 0, 4), (2, 1, 4, 0, 3)), ((1, 2, 3, 0, 4), (0, 3, 2, 1, 4)),
    ((1, 3, 2, 4, 0), (1, 0, 2, 4, 3))))
GOOD_GROUPINGS = [
    SWAPS, ONE, SQUARE, FIVE, (6, (), ((),) * 4), (3, (STILL,) * 6, ((STILL,) * 6,)), (2, ((1, 0),), ((), ((1, 0),), ((0, 1),))),
    (6, (SWAP + (5,), TURN + (5,)), ((TURN + (5,),),)),
]
# The first two make 720 motions of six points; in the third one a part has a motion that is not in the whole.
TOO_MANY = (6, ((1, 0, 2, 3, 4, 5), (1, 2, 3, 4, 5, 0)), ((),))
NO_GROUPINGS = ODD + [
    TOO_MANY, (6, ((1, 0, 2, 3, 4, 5), (1, 2, 3, 4, 5, 0)), (((1, 0, 2, 3, 4, 5),),)), (3, ((1, 2, 0),), (((1, 0, 2),),)), (3, (), ((STILL,), ((1, 2, 0),))),
    (3, ((1, 2, 0),), ((), (), (), ((0, 2, 1),))), [3, (), ((),)], (3, [], ((),)), (3, (), [()]), (3, (), ([],)), (3, (), ()), (3, (), ((),) * 5),
    (3, (), ((),), ()), (3, ()), (3,), (0, (), ((),)), (7, (), ((),)), (-1, (), ((),)), (True, (), ((),)), ("3", (), ((),)), (None, (), ((),)),
    (10 ** 99, (), ((),)), ((3,), (), ((),)), (3, (STILL,) * 7, ((),)), (3, (), ((STILL,) * 7,)), (3, STILL, ((),)), (3, (), (STILL,)), (3, (), ((), None)),
    (3, None, ((),)), (3, (), None), (3, {}, ((),)), (3, (), {}), (3, "", ((),)), (3, (), ("",)), (3, ([0, 1, 2],), ((),)), (3, (), (([0, 1, 2],),)),
    (3, ((0, 1),), ((),)), (3, (), (((0, 1),),)), (3, ((0, 1, 2, 3),), ((),)), (3, ((0, True, 2),), ((),)), (3, (), (((0, True, 2),),)),
    (1, ((False,),), ((),)), (1, (), (((False,),),)), (3, ((0, 0, 1),), ((),)), (3, (), (((1, 2, 3),),)), (3, (), ({},)), (3, ((),), ((),)),
    ((), ((),), 3), (3, ((),), ()), (3, (None,), ((),)), (3, ((1, 0, 2),), (((1, 0, 2), (0, 2, 1)),)), (3, ((1, 0, 2),), (((1, 0, 2), (0, 1)),)),
]
NO_GROUPINGS += [(3, (thing,), ((),)) for thing in NO_MOTIONS] + [(3, (), ((thing,),)) for thing in NO_MOTIONS]


def meet_by_hand(grouping, lot):
    m, makers, parts = grouping
    found = members_by_hand(m, makers)
    for thing in lot:
        found = found & members_by_hand(m, parts[thing])
    return found


def world_by_hand(grouping):
    """The world of a grouping, with the classes of alike ones sorted by their first members."""
    m, makers, parts = grouping
    whole = sorted(members_by_hand(m, makers))
    places = []
    for part in parts:
        own = members_by_hand(m, part)
        classes = sorted({tuple(sorted(b for b in whole if any(then_by_hand(c, b) == a for c in own))) for a in whole})
        assert sum(len(each) for each in classes) == len(whole)
        places.append({member: at for at, each in enumerate(classes) for member in each})
    outcomes = sorted({tuple(place[member] for place in places) for member in whole})
    return len(parts), tuple((outcome, 1) for outcome in outcomes)


def some_groupings(seed, many, parts=None):
    """Groupings of one to four things, whose parts are made of members of the whole."""
    choose = random.Random(seed)
    found = []
    for m, makers in some_makers(seed, many):
        whole = sorted(members_by_hand(m, makers))
        things = []
        for _ in range(parts or choose.randint(1, 4)):
            things.append(tuple(choose.choice(whole) for _ in range(choose.choice([0, 1, 1, 1, 2]))))
        found.append((m, makers, tuple(things)))
    return found


class TestIsGrouping(Checked):

    def test_groupings(self):
        for thing in GOOD_GROUPINGS + some_groupings(1, 20):
            self.assert_true(is_grouping(thing), thing)
        self.assert_true(is_grouping(thing=SWAPS))

    def test_no_groupings(self):
        for thing in NO_GROUPINGS:
            self.assert_false(is_grouping(thing), thing)

    def test_each_limit(self):
        for m in range(-1, 9):
            self.assertIs(is_grouping((m, (), ((),))), 1 <= m <= 6)
        for many in range(9):
            self.assertIs(is_grouping((3, (STILL,) * many, ((),))), many <= 6)
            self.assertIs(is_grouping((3, (), ((STILL,) * many,))), many <= 6)
            self.assertIs(is_grouping((3, (), ((),) * many)), 1 <= many <= 4)

    def test_parts_lie_within_the_whole(self):
        even = (4, ((1, 2, 0, 3), (0, 2, 3, 1)))
        inside = members_by_hand(*even)
        self.assertEqual(len(inside), 12)
        for motion in permutations(range(4)):
            self.assertIs(is_grouping(even + (((), (motion,)),)), motion in inside)

    def test_the_whole_has_at_most_120_members(self):
        six = tuple(range(6))
        for makers in [(SWAP + (5,), TURN + (5,)), ((1, 2, 3, 4, 0, 5), (0, 2, 4, 1, 3, 5), (5, 4, 2, 3, 1, 0))]:
            self.assert_true(is_grouping((6, makers, ((six,), makers))))
            self.assert_false(is_grouping((6, makers + ((0, 1, 2, 3, 5, 4),), ((six,),))))


class TestMeetsAndAmounts(Checked):

    def test_told_meets(self):
        self.assert_same(meet_of(SWAPS, (0, 1)), (STILL,))
        self.assert_same(meet_of(grouping=SWAPS, lot=(1,)), (STILL, (0, 2, 1)))
        self.assert_same(meet_of(SWAPS, ()), tuple(permutations(range(3))))
        self.assert_same(meet_of(ONE, (0,)), ((0,),))
        self.assert_same(meet_of(SQUARE, (0, 2)), ((0, 1, 2, 3), (2, 3, 0, 1)))

    def test_told_amounts(self):
        self.assert_same(group_amount(SWAPS, (0,)), (1, ((3, 1),)))
        self.assert_same(group_amount(SWAPS, (0, 1)), (1, ((2, 1), (3, 1))))
        self.assert_same(group_amount(grouping=SWAPS, lot=()), (1, ()))
        self.assert_same(group_amount(FIVE, (0, 1, 2, 3)), (1, ((2, 3), (3, 1), (5, 1))))
        self.assert_same(group_amount(FIVE, (0,)), (1, ((2, 2), (5, 1))))

    def test_all_lots(self):
        for grouping in GOOD_GROUPINGS + some_groupings(2, 40):
            for lot in lots_of_things(len(grouping[2])):
                wanted = meet_by_hand(grouping, lot)
                self.assert_same(meet_of(grouping, lot), tuple(sorted(wanted)))
                found = group_amount(grouping, lot)
                self.assert_true(is_amount(found))
                whole = len(meet_by_hand(grouping, ()))
                self.assertEqual(whole % len(wanted), 0)
                self.assert_same(found, amount_of(whole // len(wanted)))
                self.assert_same(found, minus(amount_of(whole), amount_of(len(wanted))))

    def test_bad_groupings_and_lots(self):
        for call in (meet_of, group_amount):
            for thing in NO_GROUPINGS:
                self.assert_thing(BadGrouping, thing, call, thing, (0,))
                self.assert_thing(BadGrouping, thing, call, grouping=thing, lot=None)
            for grouping in (SWAPS, ONE, SQUARE, FIVE):
                n = len(grouping[2])
                for thing in [no for no in no_lots(n) if not (n == 4 and no == (1, 2, 3))]:
                    self.assert_thing(BadLot, thing, call, grouping, thing)
                    self.assert_thing(BadLot, thing, call, grouping=grouping, lot=thing)


class TestGroupValues(Checked):

    def test_told_values(self):
        self.assert_same(group_value(FIVE, four_form(0, 1)), (1, ((2, -4), (3, 1), (5, 1))))
        self.assert_same(group_value(grouping=SWAPS, form=(2, (((0,), 2), ((0, 1), -1)))), (1, ((2, -1), (3, 1))))
        self.assert_same(group_value(SWAPS, (2, ())), (1, ()))
        self.assert_same(group_value(ONE, (1, (((0,), 7),))), (1, ()))

    def test_all_forms(self):
        for grouping in GOOD_GROUPINGS + some_groupings(3, 30):
            n = len(grouping[2])
            for form in some_forms(n, 4, 4, 20):
                total = (1, ())
                for lot, factor in form[1]:
                    total = plus(total, times(group_amount(grouping, lot), factor, 1))
                self.assert_same(group_value(grouping, form), total)

    def test_basic_forms_are_not_below_nought(self):
        for grouping in GOOD_GROUPINGS + some_groupings(5, 25):
            n = len(grouping[2])
            for name in names_by_hand(n):
                self.assertGreaterEqual(sign_of(group_value(grouping, basic_form(n, name))), 0)

    def test_forms_of_three_things_that_hold_in_all_worlds(self):
        for form in some_named_sums(3, 6, 8) + some_forms(3, 7, 8, 3):
            if breaking_world(form) is None:
                for grouping in some_groupings(8, 20, 3):
                    self.assertGreaterEqual(sign_of(group_value(grouping, form)), 0)

    def test_forms_of_four_at_once(self):
        for grouping in some_groupings(9, 40, 4):
            whole = len(meet_of(grouping, ()))
            for i, j in PAIRS:
                if whole < 120:
                    self.assertGreaterEqual(sign_of(group_value(grouping, four_form(i, j))), 0)

    def test_told_lots_as_groupings(self):
        # Two points are exchanged by each coin; a thing that shows a coin leaves it as it is.
        for name in told_names_by_hand(3):
            if name[0] == "hit":
                parts = tuple(() if thing in name[1] else ((1, 0),) for thing in range(3))
                grouping = (2, ((1, 0),), parts)
                for lot, number in zip(all_lots(3), told_table(3, name)[1]):
                    self.assert_same(group_amount(grouping, lot), (1, ((2, 1),) if number else ()))

    def test_bad_groupings_forms_and_sizes(self):
        for thing in NO_GROUPINGS:
            self.assert_thing(BadGrouping, thing, group_value, thing, (2, ()))
            self.assert_thing(BadGrouping, thing, group_value, grouping=thing, form=None)
        for thing in NO_FORMS:
            self.assert_thing(BadForm, thing, group_value, SWAPS, thing)
            self.assert_thing(BadForm, thing, group_value, form=thing, grouping=SWAPS)
        for grouping in (ONE, SWAPS, SQUARE, FIVE):
            for n in range(1, 6):
                form = (n, (((0,), 1),))
                if n != len(grouping[2]):
                    self.assert_thing(OtherSize, form, group_value, grouping, form)
                    self.assert_thing(OtherSize, (n, ()), group_value, grouping, (n, ()))


class TestGroupingWorlds(Checked):

    def test_told_worlds(self):
        self.assert_same(grouping_world(SWAPS)[1][0], ((0, 0), 1))
        self.assert_same(grouping_world(SWAPS), (2, (((0, 0), 1), ((0, 1), 1), ((1, 0), 1), ((1, 2), 1), ((2, 1), 1), ((2, 2), 1))))
        self.assert_same(grouping_world(ONE), (1, (((0,), 1),)))
        self.assert_same(grouping_world(grouping=(2, ((1, 0),), ((), ((1, 0),)))), (2, (((0, 0), 1), ((1, 0), 1))))

    def test_row_by_row_with_the_amounts_of_the_grouping(self):
        sizes = {}
        for grouping in [each for each in GOOD_GROUPINGS if each != FIVE] + some_groupings(10, 60):
            n = len(grouping[2])
            wanted = world_by_hand(grouping)
            many = len(meet_by_hand(grouping, ())) // len(meet_by_hand(grouping, range(n)))
            self.assertEqual(len(wanted[1]), many)
            if many > 40:
                self.assert_thing(BadNumber, many, grouping_world, grouping)
                self.assert_thing(BadNumber, many, grouping_world, grouping=grouping)
                continue
            found = grouping_world(grouping)
            self.assert_same(found, wanted)
            self.assert_true(is_world(found))
            sizes[many] = sizes.get(many, 0) + 1
            for lot in lots_of_things(n):
                self.assert_same(lot_amount(found, lot), group_amount(grouping, lot))
        self.assertGreater(len(sizes), 5)

    def test_forty_rows_and_more(self):
        # The whole has 120 members; the meets have 3, 2, 4, 1 and 5 of them.
        for part, rows in [(((1, 2, 0, 3, 4),), 40), (((1, 0, 2, 3, 4),), 60), (((1, 2, 3, 0, 4),), 30), ((), 120), ((TURN,), 24)]:
            grouping = (5, (SWAP, TURN), (part, part))
            if rows > 40:
                self.assert_thing(BadNumber, rows, grouping_world, grouping)
            else:
                found = grouping_world(grouping)
                self.assertEqual(len(found[1]), rows)
                self.assert_same(found, world_by_hand(grouping))
        self.assert_thing(BadNumber, 120, grouping_world, FIVE)

    def test_classes_are_of_one_side(self):
        # Alike are a, and c and then a, where a and then c is another one; the second thing tells the member.
        grouping = (3, ((1, 0, 2), (1, 2, 0)), (((1, 0, 2),), ()))
        self.assert_same(grouping_world(grouping), (2, (
            ((0, 0), 1), ((0, 2), 1), ((1, 1), 1), ((1, 4), 1), ((2, 3), 1), ((2, 5), 1))))

    def test_bad_groupings(self):
        for thing in NO_GROUPINGS:
            self.assert_thing(BadGrouping, thing, grouping_world, thing)
            self.assert_thing(BadGrouping, thing, grouping_world, grouping=thing)


class TestFiveOrders(Checked):

    def test_five_orders(self):
        self.assert_same(five_orders(), FIVE)
        self.assert_true(is_grouping(five_orders()))
        self.assertEqual(len(meet_of(five_orders(), ())), 120)
        self.assert_same([len(meet_of(five_orders(), (thing,))) for thing in range(4)], [6, 20, 8, 8])

    def test_one_of_the_six_forms_is_below_nought(self):
        signs = {(i, j): sign_of(group_value(five_orders(), four_form(i, j))) for i, j in PAIRS}
        self.assertEqual([pair for pair, sign in signs.items() if sign < 0], [(0, 1)])
        form = form_by_hand(4, [(1, four_by_hand(0, 1))])
        self.assert_same(group_value(five_orders(), form), (1, ((2, -4), (3, 1), (5, 1))))
