"""Which conditions are needed: least positions and needless ones ([5.4])."""

import random
from itertools import combinations

from tests.checks import ODD, Checked
from tests.hand import form_by_hand, named_by_hand, sum_names_by_hand
from tests.test_conditions import CIPHER, KEY, NO_FORMS_IN_PART, is_right, no_conditions, some_conditions, some_followers
from tests.test_forms import some_forms
from toldamounts.conditions import is_following, least_positions, needless_positions, under_holds
from toldamounts.errors import BadForm, BadForms, Broken
from toldamounts.forms import times_form

EMPTY = (3, ())


def at_positions(conditions, positions):
    return tuple(conditions[at] for at in positions)


class TestLeastPositions(Checked):

    def check(self, form, conditions):
        found = least_positions(form, conditions)
        self.assertIs(found.__class__, tuple)
        self.assert_same(found, tuple(sorted(set(found))))
        self.assertTrue(all(at.__class__ is int and 0 <= at < len(conditions) for at in found))
        self.assert_true(is_following(form, at_positions(conditions, found)))
        for at in found:
            # Fewer than these do not do either, for less follows from less.
            self.assert_false(is_following(form, at_positions(conditions, [other for other in found if other != at])))
        return found

    def test_told_positions(self):
        self.assert_same(least_positions(KEY, CIPHER), (0, 1))
        self.assert_same(least_positions(form=KEY, conditions=(EMPTY,) + CIPHER + (EMPTY,)), (1, 2))
        self.assert_same(least_positions(EMPTY, CIPHER), ())
        self.assert_same(least_positions((3, (((0,), 1),)), ()), ())
        self.assert_same(least_positions(CIPHER[1], CIPHER), (1,))
        self.assert_same(len(least_positions(KEY, (KEY, KEY, KEY))), 1)
        self.assertIn(least_positions(KEY, CIPHER + (KEY,)), [(0, 1), (2,)])

    def test_the_form_follows_from_them_and_from_none_that_lack_one(self):
        choose = random.Random(1)
        sizes = {}
        for n, many in ((3, 35), (4, 14)):
            for conditions in some_conditions(n, 2, many):
                conditions = conditions[:4]
                for _ in range(2):
                    found = self.check(some_followers(n, conditions, choose), conditions)
                    sizes[len(found)] = sizes.get(len(found), 0) + 1
        self.assertGreater(len(sizes), 3, sizes)

    def test_doubled_conditions_and_sums(self):
        choose = random.Random(3)
        for n in (3, 4):
            for at in range(6):
                names = choose.sample(sum_names_by_hand(n), 3)
                one, other, third = [form_by_hand(n, [(-1, named_by_hand(n, name))]) for name in names]
                both = form_by_hand(n, [(1, dict(one[1])), (1, dict(other[1]))])
                for conditions in [(one, other, both), (both, one, other, third), (one, times_form(one, 3), other, both), (third, one, third, other)]:
                    found = self.check(both, conditions)
                    self.assertLessEqual(len(found), 2)

    def test_all_lots_of_positions(self):
        choose = random.Random(4)
        for conditions in some_conditions(3, 5, 35):
            conditions = conditions[:4]
            form = some_followers(3, conditions, choose)
            found = self.check(form, conditions)
            for size in range(len(conditions) + 1):
                for positions in combinations(range(len(conditions)), size):
                    if set(positions) < set(found):
                        self.assert_false(is_following(form, at_positions(conditions, positions)))

    def assert_broken(self, form, conditions, by_name=False):
        with self.assertRaises(Broken) as caught:
            if by_name:
                least_positions(conditions=conditions, form=form)
            else:
                least_positions(form, conditions)
        self.assertIs(caught.exception.__class__, Broken)
        self.assertEqual(list(vars(caught.exception)), ["certificate"])
        certificate = caught.exception.certificate
        self.assertEqual(certificate[0], "broken")
        self.assertTrue(is_right(form, conditions, certificate))
        self.assert_true(under_holds(form, conditions, certificate))

    def test_broken(self):
        self.assert_broken(KEY, CIPHER[:1])
        self.assert_broken(KEY, CIPHER[1:], by_name=True)
        self.assert_broken(KEY, ())
        broken = 0
        for n, many in ((3, 28), (4, 10)):
            for at, conditions in enumerate(some_conditions(n, 6, many)):
                form = some_forms(n, 100 + at, 1, 20)[1]
                if not is_following(form, conditions):
                    broken += 1
                    self.assert_broken(form, conditions)
        self.assertGreater(broken, 10)

    def test_bad_forms_and_conditions(self):
        for thing in NO_FORMS_IN_PART:
            self.assert_thing(BadForm, thing, least_positions, thing, CIPHER)
            self.assert_thing(BadForm, thing, least_positions, form=thing, conditions=None)
        for n in (3, 4):
            for thing in no_conditions(n):
                self.assert_thing(BadForms, thing, least_positions, (n, (((0,), -1),)), thing)
                self.assert_thing(BadForms, thing, least_positions, form=(n, ()), conditions=thing)


class TestNeedlessPositions(Checked):

    def test_told_positions(self):
        self.assert_same(needless_positions(CIPHER), ())
        self.assert_same(needless_positions(conditions=CIPHER + (KEY,)), (2,))
        self.assert_same(needless_positions((KEY,) + CIPHER), (0,))
        self.assert_same(needless_positions((EMPTY,)), (0,))
        self.assert_same(needless_positions((KEY,)), ())
        self.assert_same(needless_positions((KEY, KEY)), (0, 1))
        self.assert_same(needless_positions(((4, (((0,), 1),)), (4, (((0,), -1),)))), (0,))
        self.assert_same(needless_positions((EMPTY,) * 6), (0, 1, 2, 3, 4, 5))

    def test_positions_that_follow_from_the_others(self):
        sizes = {}
        for n, many in ((3, 42), (4, 14)):
            for conditions in some_conditions(n, 7, many):
                conditions = conditions[:4]
                if conditions:
                    wanted = [at for at in range(len(conditions)) if is_following(conditions[at], conditions[:at] + conditions[at + 1:])]
                    found = needless_positions(conditions)
                    self.assert_same(found, tuple(wanted))
                    sizes[len(found)] = sizes.get(len(found), 0) + 1
        self.assertGreater(len(sizes), 1, sizes)

    def test_sums_are_needless(self):
        choose = random.Random(8)
        for n in (3, 4):
            for conditions in some_conditions(n, 9, 14):
                conditions = conditions[:3]
                form = some_followers(n, conditions, choose)
                for at in range(len(conditions) + 1):
                    self.assertIn(at, needless_positions(conditions[:at] + (form,) + conditions[at:]))

    def test_bad_conditions(self):
        for n in (3, 4):
            for thing in no_conditions(n) + [()]:
                if thing not in [((7 - n, ()),)]:
                    self.assert_thing(BadForms, thing, needless_positions, thing)
                    self.assert_thing(BadForms, thing, needless_positions, conditions=thing)
        for thing in ODD + [((2, ()),), ((5, ()),), ((1, ()), (1, ())), (KEY, (4, ())), ((4, ()), KEY), ((KEY,),), KEY, (KEY,) * 7]:
            self.assert_thing(BadForms, thing, needless_positions, thing)
