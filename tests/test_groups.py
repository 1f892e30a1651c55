"""Motions, one and then another, members of makers, and certificates of both kinds ([7.1], [7.2])."""

import random
from itertools import permutations, product

from tests.checks import ODD, Checked
from toldamounts.errors import BadMotion, BadMotions, BadNumber
from toldamounts.groups import is_motion, judge_member, member_holds, members_of, then

TURN = (1, 2, 3, 4, 0)
SWAP = (1, 0, 2, 3, 4)
NO_NUMBERS = [thing for thing in ODD if thing.__class__ is not int or not 1 <= thing <= 6] + [7, -1, "3", (3,), [3], "1"]
NO_MOTIONS = ODD + [
    [0, 1, 2], (0, 1), (0, 1, 2, 3), (0, 1, 1), (0, 0, 0), (1, 2, 3), (0, 1, 3), (-1, 0, 1), (0, True, 2), (False, 1, 2), (0, 1, None),
    ("0", "1", "2"), "012", ((0,), (1,), (2,)), (0, 1, (2,)), {0: 0, 1: 1, 2: 2}, (0, 1, 10 ** 99), ((0, 1, 2),), (2, 1, 3),
]


def no_makers():
    """Values that are no makers of motions of three points."""
    return [odd for odd in ODD if odd != ()] + [(thing,) for thing in NO_MOTIONS] + [
        [(0, 1, 2)], (0, 1, 2), ((0, 1, 2),) * 7, ((0, 1, 2), (0, 1)), ((0, 1, 2), None), ((0, 1, 2), [0, 1, 2]), {(0, 1, 2): 1}, "makers",
        (((0, 1, 2),),), ((0, 1, 2), (0, 1, 2, 3)),
    ]


def then_by_hand(one, other):
    return tuple(other[one[i]] for i in range(len(one)))


def members_by_hand(m, makers):
    """The least closed set, by putting all together until nothing new comes."""
    found = {tuple(range(m))} | set(makers)
    while True:
        more = {then_by_hand(one, other) for one in found for other in makers} - found
        if not more:
            return found
        found |= more


def is_right(m, makers, motion, thing):
    """Whether a certificate is right, worked out by hand; its motions are looked at as well."""
    if thing[0] == "row":
        made = tuple(range(m))
        for at in thing[1]:
            made = then_by_hand(made, makers[at])
        return made == motion
    members = thing[1]
    inside = set(members)
    if list(members) != sorted(inside) or not inside <= set(permutations(range(m))) or motion in inside:
        return False
    return tuple(range(m)) in inside and set(makers) <= inside and all(then_by_hand(a, b) in inside for a in members for b in members)


def some_makers(seed, many):
    """Pairs of a number of points and makers, from none to six, of at most 120 members."""
    choose = random.Random(seed)
    found = [(m, ()) for m in range(1, 7)]
    while len(found) < many:
        m = choose.randint(1, 6)
        makers = tuple(tuple(choose.sample(range(m), m)) for _ in range(choose.choice([1, 1, 2, 2, 3, 6])))
        if m < 6 or len(members_by_hand(m, makers)) <= 120:
            found.append((m, makers))
    return found


class TestMotions(Checked):

    def test_is_motion(self):
        for m in range(1, 7):
            for motion in permutations(range(m)):
                self.assert_true(is_motion(m, motion))
                for other in range(1, 7):
                    self.assertIs(is_motion(other, motion), other == m)
        self.assert_true(is_motion(m=3, thing=(2, 0, 1)))
        for thing in NO_MOTIONS:
            self.assert_false(is_motion(3, thing), thing)
        self.assert_false(is_motion(1, (False,)))
        self.assert_false(is_motion(2, (False, True)))
        self.assert_false(is_motion(1, ()))

    def test_then(self):
        self.assert_same(then(3, (1, 2, 0), (1, 0, 2)), (0, 2, 1))
        self.assert_same(then(m=3, one=(1, 0, 2), other=(1, 2, 0)), (2, 1, 0))
        self.assert_same(then(1, (0,), (0,)), (0,))
        for m in range(1, 5):
            for one, other in product(permutations(range(m)), repeat=2):
                self.assert_same(then(m, one, other), tuple(other[one[i]] for i in range(m)))
        self.assert_same(then(6, (1, 2, 3, 4, 5, 0), (5, 4, 3, 2, 1, 0)), (4, 3, 2, 1, 0, 5))

    def test_bad_numbers(self):
        for thing in NO_NUMBERS:
            self.assert_thing(BadNumber, thing, is_motion, thing, (0,))
            self.assert_thing(BadNumber, thing, is_motion, m=thing, thing=None)
            self.assert_thing(BadNumber, thing, then, thing, (0,), (0,))
            self.assert_thing(BadNumber, thing, then, m=thing, one=None, other=None)

    def test_bad_motions(self):
        for thing in NO_MOTIONS:
            self.assert_thing(BadMotion, thing, then, 3, thing, (0, 1, 2))
            self.assert_thing(BadMotion, thing, then, 3, (0, 1, 2), thing)
            self.assert_thing(BadMotion, thing, then, m=3, one=thing, other="other")


class TestMembers(Checked):

    def test_told_members(self):
        self.assert_same(members_of(3, ((1, 2, 0),)), ((0, 1, 2), (1, 2, 0), (2, 0, 1)))
        self.assert_same(members_of(m=3, makers=()), ((0, 1, 2),))
        self.assert_same(members_of(1, ((0,), (0,))), ((0,),))
        self.assert_same(members_of(4, ((1, 0, 2, 3), (0, 1, 3, 2))), ((0, 1, 2, 3), (0, 1, 3, 2), (1, 0, 2, 3), (1, 0, 3, 2)))
        self.assert_same(members_of(3, ((1, 0, 2), (1, 2, 0))), tuple(permutations(range(3))))

    def test_the_greatest_numbers_of_members(self):
        self.assert_same(members_of(5, (SWAP, TURN)), tuple(permutations(range(5))))
        self.assertEqual(len(members_of(6, (SWAP + (5,), TURN + (5,)))), 120)
        # All fractional motions of six points in a line with its end.
        self.assertEqual(len(members_of(6, ((1, 2, 3, 4, 0, 5), (0, 2, 4, 1, 3, 5), (5, 4, 2, 3, 1, 0)))), 120)
        self.assertEqual(len(members_of(6, ((1, 2, 0, 3, 4, 5), (0, 1, 2, 4, 5, 3), (1, 0, 2, 3, 4, 5), (3, 4, 5, 0, 1, 2)))), 72)

    def test_any_makers(self):
        sizes = {}
        for m, makers in some_makers(1, 80):
            found = members_of(m, makers)
            self.assert_same(found, tuple(sorted(members_by_hand(m, makers))))
            sizes[len(found)] = sizes.get(len(found), 0) + 1
        self.assertGreater(len(sizes), 6)

    def test_too_many_members(self):
        for makers in [
            ((1, 0, 2, 3, 4, 5), (1, 2, 3, 4, 5, 0)), ((1, 2, 0, 3, 4, 5), (0, 2, 3, 4, 5, 1)), ((1, 2, 0, 3, 4, 5), (0, 1, 3, 4, 5, 2), (1, 0, 2, 3, 4, 5)),
            ((1, 0, 2, 3, 4, 5), (0, 2, 1, 3, 4, 5), (0, 1, 3, 2, 4, 5), (0, 1, 2, 4, 3, 5), (0, 1, 2, 3, 5, 4)),
        ]:
            self.assertGreater(len(members_by_hand(6, makers)), 120)
            self.assert_thing(BadMotions, makers, members_of, 6, makers)
            self.assert_thing(BadMotions, makers, judge_member, 6, makers, None)
            self.assert_thing(BadMotions, makers, member_holds, 6, makers, (0, 1, 2, 3, 4, 5), ("row", ()))

    def test_bad_numbers_and_makers(self):
        for call, more in ((members_of, ()), (judge_member, (None,)), (member_holds, (None, None))):
            for thing in NO_NUMBERS:
                self.assert_thing(BadNumber, thing, call, thing, ((0,),), *more)
                self.assert_thing(BadNumber, thing, call, thing, None, *more)
            for thing in no_makers():
                self.assert_thing(BadMotions, thing, call, 3, thing, *more)
        self.assert_thing(BadMotions, [()], members_of, m=3, makers=[()])
        self.assert_thing(BadMotions, None, judge_member, m=3, makers=None, motion=None)
        self.assert_thing(BadMotions, None, member_holds, m=3, makers=None, motion=None, thing=None)

    def test_six_makers_and_no_more(self):
        for many in range(9):
            makers = ((0, 1),) * many
            if many <= 6:
                self.assert_same(members_of(2, makers), ((0, 1),))
            else:
                self.assert_thing(BadMotions, makers, members_of, 2, makers)


class TestJudgeMember(Checked):

    def check(self, m, makers, motion, kind=None):
        found = judge_member(m, makers, motion)
        self.assertIs(found.__class__, tuple)
        self.assertEqual(len(found), 2)
        self.assertEqual(found[0], "row" if motion in members_by_hand(m, makers) else "closed")
        self.assertTrue(is_right(m, makers, motion, found), (makers, motion, found))
        self.assert_true(member_holds(m, makers, motion, found))
        if kind:
            self.assertEqual(found[0], kind)
        return found

    def test_told_motions(self):
        self.assert_same(judge_member(3, ((1, 2, 0),), (1, 0, 2)), ("closed", ((0, 1, 2), (1, 2, 0), (2, 0, 1))))
        self.assert_same(judge_member(m=3, makers=(), motion=(0, 1, 2)), ("row", ()))
        self.assert_same(judge_member(3, (), (0, 2, 1)), ("closed", ((0, 1, 2),)))
        self.check(3, ((1, 2, 0),), (2, 0, 1), "row")
        self.check(5, (SWAP, TURN), (4, 3, 2, 1, 0), "row")

    def test_all_motions(self):
        for m, makers in some_makers(2, 30):
            for motion in permutations(range(min(m, 4))):
                self.check(m, makers, motion + tuple(range(min(m, 4), m)))
        for makers in [(SWAP, TURN), (TURN, (0, 4, 3, 2, 1)), ((1, 2, 0, 3, 4), TURN)]:
            for motion in permutations(range(5)):
                self.check(5, makers, motion)

    def test_rows_are_in_the_order_of_the_makers(self):
        one, other = (1, 2, 0, 3), (0, 2, 3, 1)
        self.assertNotEqual(then(4, one, other), then(4, other, one))
        self.assert_true(member_holds(4, (one, other), then(4, one, other), ("row", (0, 1))))
        self.assert_false(member_holds(4, (one, other), then(4, one, other), ("row", (1, 0))))

    def test_bad_motions(self):
        for thing in NO_MOTIONS:
            self.assert_thing(BadMotion, thing, judge_member, 3, ((1, 2, 0),), thing)
            self.assert_thing(BadMotion, thing, judge_member, m=3, makers=(), motion=thing)
            self.assert_thing(BadMotion, thing, member_holds, 3, ((1, 2, 0),), thing, ("row", ()))
            self.assert_thing(BadMotion, thing, member_holds, m=3, makers=(), motion=thing, thing=None)


class TestMemberHolds(Checked):

    def test_told_certificates(self):
        self.assert_true(member_holds(3, ((1, 2, 0),), (2, 0, 1), ("row", (0, 0))))
        self.assert_true(member_holds(m=3, makers=((1, 2, 0),), motion=(2, 0, 1), thing=("row", (0,) * 500)))
        self.assert_false(member_holds(3, ((1, 2, 0),), (2, 0, 1), ("row", (0,) * 501)))
        self.assert_true(member_holds(3, (), (0, 1, 2), ("row", ())))
        self.assert_false(member_holds(3, (), (0, 1, 2), ("row", (0,))))
        self.assert_false(member_holds(3, ((1, 2, 0),), (2, 0, 1), ("row", (0,))))
        whole = tuple(permutations(range(3)))
        self.assert_false(member_holds(3, ((1, 2, 0),), (1, 0, 2), ("closed", whole)))
        self.assert_true(member_holds(3, (), (1, 0, 2), ("closed", ((0, 1, 2), (1, 2, 0), (2, 0, 1)))))
        self.assert_true(member_holds(3, (), (1, 0, 2), ("closed", ((0, 1, 2), (0, 2, 1)))))
        self.assert_false(member_holds(3, (), (1, 0, 2), ("closed", ((0, 1, 2), (1, 0, 2)))))
        self.assert_false(member_holds(3, ((1, 2, 0),), (1, 0, 2), ("closed", ((0, 1, 2),))))

    def test_greater_closed_sets_than_are_made(self):
        even = tuple(sorted(members_by_hand(5, ((1, 2, 0, 3, 4), TURN))))
        self.assertEqual(len(even), 60)
        self.assert_true(member_holds(5, (), SWAP, ("closed", even)))
        self.assert_true(member_holds(5, (TURN,), SWAP, ("closed", even)))
        self.assert_false(member_holds(5, (TURN,), (1, 2, 0, 3, 4), ("closed", even)))
        self.assert_false(member_holds(5, ((0, 1, 2, 4, 3),), SWAP, ("closed", even)))
        six = tuple(sorted(members_by_hand(6, ((1, 2, 0, 3, 4, 5), (0, 2, 3, 4, 5, 1)))))
        self.assertEqual(len(six), 360)
        self.assert_true(member_holds(6, (TURN + (5,),), SWAP + (5,), ("closed", six)))
        self.assert_false(member_holds(6, (TURN + (5,),), SWAP + (5,), ("closed", six[:-1])))
        self.assert_false(member_holds(6, (TURN + (5,),), SWAP + (5,), ("closed", six[1:])))

    def test_certificates_with_one_part_changed(self):
        choose = random.Random(3)
        right = 0
        for m, makers in some_makers(4, 40):
            for _ in range(4):
                motion = tuple(choose.sample(range(m), m))
                kind, told = judge_member(m, makers, motion)
                things = [told, told + told, told[:-1], told[1:], told[::-1], told[:1] + told]
                if kind == "row":
                    for at in range(len(told)):
                        things += [told[:at] + (other,) + told[at + 1:] for other in range(len(makers))]
                        things.append(told[:at] + told[at + 1:])
                    things += [told + (other,) for other in range(len(makers))]
                else:
                    for at in choose.sample(range(len(told)), min(8, len(told))):
                        things.append(told[:at] + told[at + 1:])
                        things.append(told[:at] + (tuple(choose.sample(range(m), m)),) + told[at + 1:])
                    things.append(tuple(sorted(set(told) | {motion})))
                for thing in things:
                    wanted = is_right(m, makers, motion, (kind, thing))
                    right += wanted
                    self.assertIs(member_holds(m, makers, motion, (kind, thing)), wanted, (makers, motion, thing))
        self.assertGreater(right, 160)

    def test_sets_that_are_not_closed(self):
        for members in [((0, 1, 2, 3), (1, 2, 3, 0)), ((0, 1, 2, 3), (0, 1, 3, 2), (0, 3, 2, 1)), ((0, 1, 2, 3), (0, 2, 3, 1)),
                        ((0, 1, 2, 3), (0, 1, 3, 2), (1, 0, 2, 3)), ((1, 2, 3, 0),), (), ((0, 1, 3, 2),)]:
            self.assert_false(member_holds(4, (), (3, 2, 1, 0), ("closed", members)))
        self.assert_true(member_holds(4, (), (3, 2, 1, 0), ("closed", ((0, 1, 2, 3), (0, 1, 3, 2), (1, 0, 2, 3), (1, 0, 3, 2)))))

    def test_nearly_certificates(self):
        turned = ((0, 1, 2), (1, 2, 0), (2, 0, 1))
        makers = ((1, 2, 0), (2, 0, 1))
        for thing in [
            ["row", (0, 0)], ("row", [0, 0]), ("row", (0, 0), ()), ("row",), ("row", 0), ("row", None), ("row", (True,)), ("row", (False, False)),
            ("row", (-1,)), ("row", (2,)), ("row", (0, 2)), ("row", ("0", "0")), ("row", (None,)), ("row", ((0,), (0,))), ("Row", (0, 0)), ("row", {}),
            ("row", "00"), ("closed", (0, 0)), ("row", ((1, 2, 0), (1, 2, 0))), ((0, 0),), ("row", ()), ("row", (10 ** 99,)), (["row"], (0, 0)),
            ("closed", turned), ("closed", ((0, 1, 2),)), ("row", (0,)), ("row", (0, 0, 0)),
        ] + ODD:
            self.assert_false(member_holds(3, makers, (2, 0, 1), thing), thing)
        self.assert_true(member_holds(3, makers, (2, 0, 1), ("row", (0, 0))))
        self.assert_true(member_holds(3, makers, (2, 0, 1), ("row", (1,))))
        for thing in [
            ["closed", turned], ("closed", list(turned)), ("closed", turned, ()), ("closed",), ("closed", None), ("closed", turned[0]), ("closed", 3),
            ("closed", turned[::-1]), ("closed", turned + turned[2:]), ("closed", tuple(list(each) for each in turned)), ("Closed", turned),
            ("closed", ((False, True, 2), (1, 2, 0), (2, 0, 1))), ("closed", ((0, 1, 2), (1, 2, 0), (2, 0, True))), ("closed", {each: 1 for each in turned}),
            ("closed", turned + (None,)), ("closed", ("012", "120", "201")), ("closed", ((0, 1, 2), (1, 2, 0), (2, 0, 1, 3))), ("row", turned),
            ("closed", ()), ("closed", ((0, 1, 2),)), ("closed", ((0, 1), (1, 0))), (["closed"], turned), ("closed", turned[1:]), ("row", ()), (turned,),
        ] + ODD:
            self.assert_false(member_holds(3, makers, (1, 0, 2), thing), thing)
        self.assert_true(member_holds(3, makers, (1, 0, 2), ("closed", turned)))
