"""Desks, their deeds, and what can be undone ([13.1], [13.2])."""

import inspect
import random
import unittest

from tests.checks import ODD, Checked
from tests.hand import form_by_hand, named_by_hand, sum_names_by_hand
from tests.test_conditions import CIPHER, KEY, is_right, some_conditions, some_followers
from tests.test_forms import NO_FORMS, some_forms
from toldamounts.conditions import is_following, judge_under, under_holds
from toldamounts.desks import Desk, read_desk
from toldamounts.errors import BadForm, BadNumber, Broken, NothingToRedo, NothingToUndo, Unkept
from toldamounts.forms import times_form
from toldamounts.spaceforms import four_form

METHODS = {
    "size": [], "conditions": [], "claims": [], "text": [], "undoable": [], "redoable": [], "copied": [], "is_same": ["thing"], "put": ["form"],
    "drop": ["at"], "claim": ["form"], "release": ["at"], "would": ["form"], "undo": [], "redo": [],
}


def no_forms(n):
    """Values that are no forms of n things, desks among them."""
    return [thing for thing in NO_FORMS if thing != (n, ())] + [(7 - n, ()), (7 - n, (((0,), 1),)), (5, ()), (2, (((0,), 1),)), Desk(n), KEY if n == 4 else four_form(0, 1)]


def no_positions(many):
    """Values that are no positions among many."""
    return [odd for odd in ODD if odd.__class__ is not int or not 0 <= odd < many] + [many, -1, True, False, "0", (0,), 10 ** 99]


def state(desk):
    """All that can be seen of a desk."""
    return desk.size(), desk.conditions(), desk.claims(), desk.text(), desk.undoable(), desk.redoable()


def made(n, conditions, claims=()):
    """A desk with these conditions and claims."""
    desk = Desk(n)
    for form in conditions:
        desk.put(form)
    for form in claims:
        desk.claim(form)
    return desk


class DeskTest(Checked):

    def assert_refused(self, kind, carried, desk, name, *args, **named):
        """A call raises just this error, and changes nothing; an error's certificate is returned."""
        before = state(desk)
        certificate = None
        for _ in range(2):
            with self.assertRaises(kind) as caught:
                getattr(desk, name)(*args, **named)
            error = caught.exception
            self.assertIs(error.__class__, kind)
            told = dict(vars(error))
            again = told.pop("certificate", None)
            self.assertEqual(again, certificate if certificate is not None else again)
            certificate = again
            self.assertEqual(list(told), list(carried))
            for key, worth in carried.items():
                if isinstance(worth, Desk):
                    self.assertIs(told[key], worth)
                else:
                    self.assert_same(told[key], worth)
            self.assert_same(state(desk), before)
        return certificate


class TestDesk(DeskTest):

    def test_methods_stand_in_the_class_with_their_parameters(self):
        self.assertEqual(Desk.__bases__, (object,))
        self.assertEqual(Desk.__module__, "toldamounts.desks")
        self.assertEqual(list(inspect.signature(Desk).parameters), ["n"])
        for name, parameters in METHODS.items():
            self.assertIn(name, vars(Desk))
            self.assertEqual(list(inspect.signature(getattr(Desk(3), name)).parameters), parameters)
        self.assertEqual([name for name in vars(Desk) if not name.startswith("_") and name not in METHODS], [])
        self.assertEqual(read_desk.__module__, "toldamounts.desks")

    def test_new_desks(self):
        for n in (3, 4):
            self.assert_same(state(Desk(n)), (n, (), (), f"desk {n}", 0, 0))
            self.assert_same(state(Desk(n=n)), (n, (), (), f"desk {n}", 0, 0))

    def test_bad_numbers(self):
        for thing in ODD + [2, 6, 1, "3", (3,), [4], 10 ** 99]:
            self.assert_thing(BadNumber, thing, Desk, thing)
            self.assert_thing(BadNumber, thing, Desk, n=thing)

    def test_told_deeds(self):
        desk = Desk(3)
        for form in CIPHER:
            self.assertIsNone(desk.put(form))
        self.assertIsNone(desk.claim(KEY))
        self.assertEqual(desk.undoable(), 3)
        self.assertEqual(desk.would(KEY)[0], "sum")
        self.assert_same(desk.text(), "desk 3\ncondition\n-1 0\n1 0 2\n-1 2\ncondition\n-1 0 1 2\n1 1 2\nclaim\n-1 0\n1 1")
        self.assertIsNone(desk.undo())
        self.assertEqual(desk.redoable(), 1)
        self.assertIsNone(desk.drop(0))
        self.assertEqual((desk.redoable(), len(desk.conditions())), (0, 1))
        self.assert_same(desk.conditions(), CIPHER[1:])
        self.assert_same(desk.claims(), ())

    def test_arguments_by_name(self):
        desk = Desk(3)
        self.assertIsNone(desk.put(form=CIPHER[0]))
        self.assertIsNone(desk.put(form=CIPHER[1]))
        self.assertIsNone(desk.claim(form=KEY))
        self.assertEqual(desk.would(form=KEY), judge_under(KEY, CIPHER))
        self.assertIsNone(desk.release(at=0))
        self.assertIsNone(desk.drop(at=1))
        self.assert_true(desk.is_same(thing=made(3, CIPHER[:1])))

    def test_forms_stand_in_the_order_in_which_they_were_put(self):
        for n in (3, 4):
            for conditions in some_conditions(n, 31, 14):
                choose = random.Random(n)
                claims = tuple(some_followers(n, conditions, choose) for _ in range(6))
                desk = made(n, conditions, claims)
                self.assert_same(state(desk)[:3], (n, conditions, claims))
                self.assertEqual(desk.undoable(), len(conditions) + 6)
                for at in (5, 0, 2):
                    left = desk.claims()
                    desk.release(at if at < len(left) else 0)
                    place = at if at < len(left) else 0
                    self.assert_same(desk.claims(), left[:place] + left[place + 1:])
                    self.assert_same(desk.conditions(), conditions)

    def test_equal_forms_may_stand_twice(self):
        desk = made(3, (KEY, KEY), (KEY, KEY))
        desk.drop(0)
        self.assert_same((desk.conditions(), desk.claims()), ((KEY,), (KEY, KEY)))
        desk.release(1)
        self.assert_same(desk.claims(), (KEY,))
        self.assertEqual(desk.undoable(), 6)


class TestRefusals(DeskTest):

    def test_bad_forms(self):
        for n in (3, 4):
            for desk in [Desk(n), made(n, [(n, ())] * 6, [(n, ())] * 6)]:
                for thing in no_forms(n):
                    for name in ("put", "claim", "would"):
                        self.assert_refused(BadForm, {"thing": thing}, desk, name, thing)
                        self.assert_refused(BadForm, {"thing": thing}, desk, name, form=thing)

    def test_six_conditions_and_six_claims(self):
        for n in (3, 4):
            desk = Desk(n)
            form = form_by_hand(n, [(1, named_by_hand(n, ("shared", 0, 1, ())))])
            for many in range(6):
                self.assertEqual(len(desk.conditions()), many)
                desk.put(form)
            self.assert_refused(BadNumber, {"thing": 6}, desk, "put", form)
            self.assert_refused(BadNumber, {"thing": 6}, desk, "put", form=(n, ()))
            for many in range(6):
                self.assertEqual(len(desk.claims()), many)
                desk.claim(form)
            self.assert_refused(BadNumber, {"thing": 6}, desk, "claim", form)
            # Six claims are looked at ahead of whether a form follows, and behind whether it is a form.
            self.assert_refused(BadNumber, {"thing": 6}, desk, "claim", times_form(form, -1))
            self.assert_refused(BadForm, {"thing": None}, desk, "claim", None)
            self.assert_refused(BadForm, {"thing": None}, desk, "put", None)
            desk.drop(3)
            desk.release(5)
            desk.put(form)
            desk.claim(form)
            self.assertEqual((len(desk.conditions()), len(desk.claims())), (6, 6))

    def test_positions(self):
        for n in (3, 4):
            for many in (0, 1, 3):
                desk = made(n, [(n, ())] * many, [(n, ())] * many)
                for thing in no_positions(many):
                    self.assert_refused(BadNumber, {"thing": thing}, desk, "drop", thing)
                    self.assert_refused(BadNumber, {"thing": thing}, desk, "drop", at=thing)
                    self.assert_refused(BadNumber, {"thing": thing}, desk, "release", thing)
                    self.assert_refused(BadNumber, {"thing": thing}, desk, "release", at=thing)
            desk = made(n, [(n, ())] * 3)
            self.assert_refused(BadNumber, {"thing": 0}, desk, "release", 0)

    def test_claims_that_do_not_follow(self):
        desk = Desk(3)
        found = self.assert_refused(Broken, {}, desk, "claim", KEY)
        self.assertTrue(is_right(KEY, (), found))
        for form in CIPHER:
            desk.put(form)
        desk.claim(KEY)
        broken = 0
        for n in (3, 4):
            for at, conditions in enumerate(some_conditions(n, 32, 21)):
                desk = made(n, conditions)
                for form in some_forms(n, 33 + at, 3, 20):
                    if is_following(form, conditions):
                        self.assertIsNone(desk.claim(form))
                    else:
                        broken += 1
                        found = self.assert_refused(Broken, {}, desk, "claim", form)
                        self.assertEqual(found[0], "broken")
                        self.assertTrue(is_right(form, conditions, found))
                        self.assert_true(under_holds(form, conditions, found))
        self.assertGreater(broken, 30)

    def test_conditions_that_claims_need(self):
        desk = made(3, CIPHER, (CIPHER[0], KEY))
        found = self.assert_refused(Unkept, {"at": 0}, desk, "drop", 0)
        self.assertTrue(is_right(CIPHER[0], CIPHER[1:], found))
        found = self.assert_refused(Unkept, {"at": 1}, desk, "drop", at=1)
        self.assertTrue(is_right(KEY, CIPHER[:1], found))
        desk.release(1)
        self.assertIsNone(desk.drop(1))
        self.assert_refused(Unkept, {"at": 0}, desk, "drop", 0)

    def test_the_least_position_of_a_claim_that_would_not_follow(self):
        choose = random.Random(34)
        places = {}
        for n, many in ((3, 49), (4, 14)):
            for conditions in some_conditions(n, 35, many):
                claims = [some_followers(n, conditions[:choose.randint(0, 6)], choose) for _ in range(choose.randint(0, 6))]
                desk = made(n, conditions, claims)
                for at in range(len(conditions)):
                    left = conditions[:at] + conditions[at + 1:]
                    lost = [place for place, form in enumerate(claims) if not is_following(form, left)]
                    if lost:
                        found = self.assert_refused(Unkept, {"at": lost[0]}, desk, "drop", at)
                        self.assertTrue(is_right(claims[lost[0]], left, found))
                        places[lost[0]] = places.get(lost[0], 0) + 1
                    else:
                        other = desk.copied()
                        self.assertIsNone(other.drop(at))
                        self.assert_same((other.conditions(), other.claims()), (left, tuple(claims)))
        self.assertGreater(len(places), 3, places)

    def test_nothing_to_undo_or_to_redo(self):
        for n in (3, 4):
            desk = Desk(n)
            self.assert_refused(NothingToUndo, {}, desk, "undo")
            self.assert_refused(NothingToRedo, {}, desk, "redo")
            desk.put((n, ()))
            self.assert_refused(NothingToRedo, {}, desk, "redo")
            desk.undo()
            self.assert_refused(NothingToUndo, {}, desk, "undo")
            desk.redo()
            self.assert_refused(NothingToRedo, {}, desk, "redo")

    def test_refused_deeds_keep_what_can_be_redone(self):
        desk = made(3, CIPHER, (KEY,))
        desk.undo()
        desk.undo()
        self.assert_refused(BadForm, {"thing": None}, desk, "put", None)
        self.assert_refused(BadNumber, {"thing": 1}, desk, "drop", 1)
        self.assert_refused(BadNumber, {"thing": 0}, desk, "release", 0)
        self.assertTrue(is_right(KEY, CIPHER[:1], self.assert_refused(Broken, {}, desk, "claim", KEY)))
        self.assertEqual((desk.undoable(), desk.redoable()), (1, 2))
        desk.would(KEY)
        desk.redo()
        desk.redo()
        self.assert_same((desk.conditions(), desk.claims()), (CIPHER, (KEY,)))
        self.assert_refused(Unkept, {"at": 0}, desk, "drop", 1)
        self.assertEqual((desk.undoable(), desk.redoable()), (3, 0))


class TestUndo(DeskTest):

    def test_behind_each_kind_of_deed(self):
        for name, arguments in [("put", (CIPHER[0],)), ("drop", (2,)), ("claim", (CIPHER[1],)), ("release", (1,))]:
            desk = made(3, CIPHER + (KEY,), (KEY, CIPHER[0]))
            before = desk.conditions(), desk.claims()
            getattr(desk, name)(*arguments)
            after = desk.conditions(), desk.claims()
            self.assertNotEqual(before, after)
            self.assertEqual((desk.undoable(), desk.redoable()), (6, 0))
            for _ in range(3):
                self.assertIsNone(desk.undo())
                self.assert_same(((desk.conditions(), desk.claims()), desk.undoable(), desk.redoable()), (before, 5, 1))
                self.assertIsNone(desk.redo())
                self.assert_same(((desk.conditions(), desk.claims()), desk.undoable(), desk.redoable()), (after, 6, 0))
            desk.undo()
            desk.undo()
            for deed, more in [("put", ((3, ()),)), ("drop", (2,)), ("claim", ((3, ()),)), ("release", (0,))]:
                other = made(3, CIPHER + (KEY,), (KEY, CIPHER[0]))
                getattr(other, name)(*arguments)
                other.undo()
                getattr(other, deed)(*more)
                self.assertEqual((other.undoable(), other.redoable()), (6, 0))
                self.assert_refused(NothingToRedo, {}, other, "redo")

    def test_a_deed_that_leaves_an_equal_standing_is_a_deed(self):
        desk = made(3, (KEY, KEY))
        desk.drop(0)
        desk.put(KEY)
        self.assertEqual(desk.undoable(), 4)
        desk.undo()
        self.assert_same(desk.conditions(), (KEY,))
        desk.undo()
        self.assert_same(desk.conditions(), (KEY, KEY))

    def test_long_walks(self):
        for n in (3, 4):
            for seed in range(5):
                self.walk(n, random.Random(seed))

    def walk(self, n, choose):
        """Any deeds, with the standings kept beside in a list."""
        desk = Desk(n)
        past, now, coming = [], ((), ()), []
        pool = [form_by_hand(n, [(k, named_by_hand(n, name))]) for name in choose.sample(sum_names_by_hand(n), 5) for k in (1, -1, 2)]
        done = 0
        for _ in range(120):
            name = choose.choice(["put", "put", "claim", "claim", "drop", "release", "undo", "redo"])
            if done == 30 and name not in ("undo", "redo"):
                continue
            try:
                if name in ("put", "claim"):
                    form = choose.choice(pool)
                    getattr(desk, name)(form)
                    new = (now[0] + (form,), now[1]) if name == "put" else (now[0], now[1] + (form,))
                elif name in ("drop", "release"):
                    at = choose.randint(0, 5)
                    getattr(desk, name)(at)
                    side = name == "release"
                    left = now[side][:at] + now[side][at + 1:]
                    new = (now[0], left) if side else (left, now[1])
                else:
                    getattr(desk, name)()
            except (BadNumber, Broken, Unkept, NothingToUndo, NothingToRedo):
                pass
            else:
                if name == "undo":
                    coming.append(now)
                    now = past.pop()
                elif name == "redo":
                    past.append(now)
                    now = coming.pop()
                else:
                    done += 1
                    past.append(now)
                    now, coming = new, []
            self.assert_same(((desk.conditions(), desk.claims()), desk.undoable(), desk.redoable()), (now, len(past), len(coming)))
            self.assertTrue(all(is_following(form, now[0]) for form in now[1]))
            self.assertLessEqual(max(len(now[0]), len(now[1])), 6)


class TestCopiesAndSameness(DeskTest):

    def test_copied_desks_go_their_own_way(self):
        desk = made(3, CIPHER, (KEY,))
        desk.undo()
        other = desk.copied()
        self.assertIs(other.__class__, Desk)
        self.assertIsNot(other, desk)
        self.assert_same(state(other), state(desk)[:4] + (0, 0))
        self.assert_refused(NothingToUndo, {}, other, "undo")
        self.assert_refused(NothingToRedo, {}, other, "redo")
        before = state(desk)
        other.put(KEY)
        other.claim(KEY)
        other.drop(0)
        self.assert_same(state(desk), before)
        after = state(other)
        desk.redo()
        desk.undo()
        desk.undo()
        desk.undo()
        self.assert_same(state(other), after)
        self.assert_same(desk.conditions(), ())
        third = other.copied().copied()
        third.release(0)
        self.assert_same(state(other), after)

    def test_is_same(self):
        desks = [made(n, conditions, claims) for n in (3, 4) for conditions, claims in [
            ((), ()), (((n, ()),), ()), ((), ((n, ()),)), (((n, ()),), ((n, ()),)), (((n, ()), (n, (((0,), 1),))), ()), (((n, (((0,), 1),)), (n, ())), ())]]
        for one in desks:
            for other in desks:
                self.assertIs(one.is_same(other), one is other)
                self.assertIs(one.is_same(other.copied()), one is other)
            for thing in ODD + [one.text(), (one.conditions(), one.claims()), state(one), (one,), [one], {0: one}, Desk, one.conditions()]:
                self.assert_false(one.is_same(thing))
        # What can be undone is not looked at.
        desk = made(3, CIPHER)
        other = made(3, (KEY,) + CIPHER)
        other.drop(0)
        other.put(KEY)
        other.undo()
        self.assert_true(desk.is_same(other))
        self.assert_true(other.is_same(thing=desk))

    def test_what_was_returned_and_passed_stays_as_it_was(self):
        desk = made(3, CIPHER, (KEY,))
        conditions, claims, text, would = desk.conditions(), desk.claims(), desk.text(), desk.would(KEY)
        desk.put((3, ()))
        desk.drop(2)
        desk.release(0)
        desk.undo()
        self.assert_same((conditions, claims, text), (CIPHER, (KEY,), "desk 3\ncondition\n-1 0\n1 0 2\n-1 2\ncondition\n-1 0 1 2\n1 1 2\nclaim\n-1 0\n1 1"))
        self.assert_same(would, judge_under(KEY, CIPHER))
        self.assert_same(KEY, (3, (((0,), -1), ((1,), 1))))
        for thing in ([3, ()], {0: [1]}, [[]], (3, [])):
            again = [part for part in thing] if isinstance(thing, list) else thing
            self.assert_refused(BadForm, {"thing": again}, desk, "put", thing)

    def test_would(self):
        for n in (3, 4):
            for at, conditions in enumerate(some_conditions(n, 36, 14)):
                desk = made(n, conditions)
                before = state(desk)
                for form in some_forms(n, 37 + at, 4, 20) + [some_followers(n, conditions, random.Random(at))]:
                    found = desk.would(form)
                    self.assertTrue(is_right(form, conditions, found))
                    self.assertEqual(found[0] == "sum", is_following(form, conditions))
                self.assert_same(state(desk), before)
        # Claims are no conditions.
        desk = made(3, CIPHER, (KEY,))
        desk.release(0)
        desk.drop(0)
        self.assertEqual(desk.would(KEY)[0], "broken")

    def test_desks_are_no_other_things(self):
        desk = Desk(3)
        for name in ("put", "claim", "would"):
            self.assert_refused(BadForm, {"thing": desk}, desk, name, desk)
        for name in ("drop", "release"):
            self.assert_refused(BadNumber, {"thing": desk}, desk, name, desk)


if __name__ == "__main__":
    unittest.main()
