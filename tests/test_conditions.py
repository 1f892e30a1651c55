"""What follows from conditions, with certificates of both kinds ([5.1], [5.2])."""

import random
from itertools import product

from tests.checks import ODD, Checked
from tests.hand import (
    TABLES, form_by_hand, is_named_list, named_by_hand, nearly, some_named_sums, sum_names_by_hand, told_names_by_hand, told_sum_by_hand,
    total_by_hand, value_by_hand,
)
from tests.test_forms import NO_FORMS, all_lots, some_forms
from toldamounts.basics import judge_basic
from toldamounts.conditions import is_following, judge_under, under_holds
from toldamounts.errors import BadForm, BadForms
from toldamounts.forms import times_form
from toldamounts.spaceforms import judge_spaces

KEY = (3, (((0,), -1), ((1,), 1)))
# Nothing is shared by 0 and 2, and 1 and 2 tell 0: so 1 has at least the amount of 0.
CIPHER = ((3, (((0,), -1), ((0, 2), 1), ((2,), -1))), (3, (((0, 1, 2), -1), ((1, 2), 1))))
NO_FORMS_IN_PART = [thing for thing in NO_FORMS if thing not in [(3, ()), (4, ())]] + [(1, ()), (2, ()), (2, (((0,), 1),)), (5, ()), (5, (((4,), 1),))]


def no_conditions(n):
    """Values that are no conditions of n things."""
    other = 7 - n
    return [odd for odd in ODD if odd != ()] + [
        [(n, ())], ((n, ()),) * 7, ((other, ()),), ((n, ()), (other, ())), ((n, ()), (2, ())), ((n, ()), None), ((n, ()), [n, ()]), (n, ()),
        ((n, (((0,), 0),)),), ((n, (((0,), True),)),), ((n, (((n,), 1),)),), ((True, ()),), ((n, ()),) * 5 + ((n, []),), {0: (n, ())},
        ((n, ()), (5, ())), (((n, ()),),), "forms", ((n, (((0,), 1), ((0,), 2))),),
    ]


def is_right(form, conditions, thing):
    """Whether a certificate is right, added up lot by lot, or at the told sum's table."""
    n, terms = form
    if thing[0] == "broken":
        if not is_named_list(thing[1], told_names_by_hand(n)):
            return False
        numbers = told_sum_by_hand(n, thing[1])
        return value_by_hand(form, numbers) < 0 and all(value_by_hand(each, numbers) >= 0 for each in conditions)
    _, m, named, factors = thing
    if m < 1 or not is_named_list(named, sum_names_by_hand(n)) or len(factors) != len(conditions) or min(factors, default=0) < 0:
        return False
    pairs = [(k, named_by_hand(n, name)) for name, k in named] + [(k, dict(each[1])) for k, each in zip(factors, conditions)]
    return total_by_hand(pairs) == {lot: m * factor for lot, factor in terms}


def some_conditions(n, seed, many):
    """Tuples of none to six conditions: any forms, opposites of named forms, sums of both."""
    choose = random.Random(seed)
    found = []
    for at in range(many):
        conditions = []
        for _ in range(at % 7):
            names = choose.sample(sum_names_by_hand(n), 2)
            kinds = [[(-1, named_by_hand(n, names[0]))], [(-2, named_by_hand(n, names[0])), (1, named_by_hand(n, names[1]))],
                     [(1, dict(some_forms(n, choose.randint(0, 10 ** 6), 1, choose.choice([2, 20]))[1][1]))]]
            conditions.append(form_by_hand(n, choose.choice(kinds)))
        found.append(tuple(conditions))
    return found


def some_followers(n, conditions, choose):
    """A form that follows from conditions."""
    pairs = [(choose.choice([0, 0, 1, 2]), named_by_hand(n, name)) for name in sum_names_by_hand(n)]
    return form_by_hand(n, pairs + [(choose.choice([0, 1, 1, 3]), dict(each[1])) for each in conditions])


def changed(n, found):
    """A certificate, and the same with one part changed."""
    yield found
    names = told_names_by_hand(n) if found[0] == "broken" else sum_names_by_hand(n)
    terms = found[1] if found[0] == "broken" else found[2]
    others = [tuple((name, 5 * k) for name, k in terms)]
    for at, (name, k) in enumerate(terms):
        others += [terms[:at] + terms[at + 1:], terms[:at] + (terms[at],) * 2 + terms[at + 1:]]
        others += [terms[:at] + ((name, k + more),) + terms[at + 1:] for more in (-k, -1, 1, 10 ** 50)]
        others += [terms[:at] + ((other, k),) + terms[at + 1:] for other in names]
    if found[0] == "broken":
        for other in others:
            yield "broken", other
        return
    _, m, _, factors = found
    yield "sum", 5 * m, others[0], tuple(5 * factor for factor in factors)
    for other in others:
        yield "sum", m, other, factors
    for more in (-m, -1, 1, m):
        yield "sum", m + more, terms, factors
    yield "sum", m, terms, factors + (0,)
    yield "sum", m, terms, factors[1:]
    for at, factor in enumerate(factors):
        for more in (-factor, -factor - 1, -1, 1, 10 ** 50):
            yield "sum", m, terms, factors[:at] + (factor + more,) + factors[at + 1:]


class JudgedUnder(Checked):

    def check(self, form, conditions, kind=None):
        found = judge_under(form, conditions)
        self.assertIs(found.__class__, tuple)
        self.assertEqual(len(found), {"sum": 4, "broken": 2}[found[0]])
        self.assertTrue(is_right(form, conditions, found), (form, conditions, found))
        self.assert_true(under_holds(form, conditions, found))
        self.assertIs(is_following(form, conditions), found[0] == "sum")
        if kind:
            self.assertEqual(found[0], kind, (form, conditions))
        return found


class TestJudgeUnder(JudgedUnder):

    def test_told_forms(self):
        self.check(KEY, CIPHER, "sum")
        self.check(KEY, (), "broken")
        self.check(KEY, CIPHER[:1], "broken")
        self.check(KEY, CIPHER[1:], "broken")
        self.check((3, (((0,), 1),)), (), "sum")
        self.check((3, (((0,), 1), ((1,), -1))), CIPHER, "broken")
        self.assert_same(judge_under(form=KEY, conditions=CIPHER)[0], "sum")
        self.assert_true(is_following(form=KEY, conditions=CIPHER))
        self.assert_false(is_following(KEY, ()))

    def test_the_form_with_no_terms(self):
        for n in (3, 4):
            for conditions in [(), ((n, ()),), ((n, ()),) * 6, ((n, (((0,), -1),)),)] + some_conditions(n, 1, 7):
                self.check((n, ()), conditions, "sum")

    def test_without_conditions(self):
        for n, judge in ((3, judge_basic), (4, judge_spaces)):
            for form in some_forms(n, 2, 15, 3) + some_named_sums(n, 3, 5):
                wanted = "sum" if judge(form)[0] == "sum" else "broken"
                self.check(form, (), wanted)
                self.check(form, ((n, ()),) * 6, wanted)
                self.check(form, (form_by_hand(n, [(1, named_by_hand(n, ("shared", 0, 1, ())))]),), wanted)

    def test_named_forms_follow(self):
        for n in (3, 4):
            for name in sum_names_by_hand(n):
                form = form_by_hand(n, [(1, named_by_hand(n, name))])
                self.check(form, ((n, (((0,), -1),)),), "sum")
                self.check(times_form(form, -1), (), "broken")
                self.check(times_form(form, -3), (times_form(form, -2),), "sum")

    def test_followers_and_such_with_one_factor_changed(self):
        choose = random.Random(4)
        for n, many in ((3, 35), (4, 14)):
            kinds = {"sum": 0, "broken": 0}
            for conditions in some_conditions(n, 5, many):
                form = some_followers(n, conditions, choose)
                self.check(form, conditions, "sum")
                for other in choose.sample(list(nearly(form)), 6):
                    kinds[self.check(other, conditions)[0]] += 1
                others = list(conditions)
                choose.shuffle(others)
                self.check(form, tuple(others), "sum")
            self.assertGreater(min(kinds.values()), 10)

    def test_any_forms(self):
        for n, many in ((3, 42), (4, 14)):
            kinds = {"sum": 0, "broken": 0}
            for at, conditions in enumerate(some_conditions(n, 6, many)):
                for form in some_forms(n, 50 + at, 3, 20):
                    kinds[self.check(form, conditions)[0]] += 1
            self.assertGreater(kinds["broken"], 10)

    def test_each_condition_follows_and_more_conditions_keep_what_follows(self):
        choose = random.Random(7)
        for n, many in ((3, 21), (4, 7)):
            for conditions in some_conditions(n, 8, many):
                for each in conditions:
                    self.check(each, conditions, "sum")
                form = some_followers(n, conditions[:3], choose)
                for some in (conditions[:3], conditions[:5], conditions):
                    self.check(form, some, "sum")

    def test_conditions_that_are_equal(self):
        for n in (3, 4):
            for form in some_forms(n, 9, 4, 20)[1:]:
                for many in range(1, 7):
                    self.check(form, (form,) * many, "sum")
                    self.check(times_form(form, 2), (form,) * many, "sum")
                both = (form, times_form(form, -1))
                self.check(times_form(form, 20), both * 3, "sum")
                self.check(times_form(form, -20), both * 3, "sum")

    def test_conditions_that_say_that_all_is_nought(self):
        for n in (3, 4):
            whole = (n, ((tuple(range(n)), -1),))
            for form in some_forms(n, 10, 10, 20):
                self.check(form, (whole,), "sum")
                self.check(form, ((n, (((0,), 1),)), whole), "sum")

    def test_conditions_that_contradict_nothing(self):
        for n in (3, 4):
            kept = tuple(some_named_sums(n, 11, 6, 2))
            kept = tuple(form if all(abs(factor) <= 20 for _, factor in form[1]) else (n, ()) for form in kept)
            for form in some_forms(n, 12, 10, 3):
                judge = judge_basic if n == 3 else judge_spaces
                self.check(form, kept, "sum" if judge(form)[0] == "sum" else "broken")

    def test_broken_only_by_several_told_lots_at_once(self):
        # 0 and 1 have equal amounts, and so have 1 and 2; only sums of told lots keep this, but for the even ones.
        for n in (3, 4):
            equal = [(a, b) for a, b in product(range(3), repeat=2) if b == (a + 1) % 3]
            conditions = tuple(form_by_hand(n, [(k, {(a,): 1}), (-k, {(b,): 1})]) for a, b in equal for k in (1, -1))
            form = form_by_hand(n, [(1, {(0, 1): 1}), (-1, {(0, 1, 2): 1})])
            self.check(form, conditions, "broken")
            more = conditions[:4] + (form_by_hand(n, [(2, {(0, 1): 1}), (-3, {(0,): 1})]), form_by_hand(n, [(-2, {(0, 1): 1}), (3, {(0,): 1})]))
            found = self.check((n, (((0,), -1),)), more, "broken")
            self.assertGreater(len(found[1]), 1)

    def test_integers_are_short(self):
        choose = random.Random(13)
        for n in (3, 4):
            for conditions in some_conditions(n, 14, 14):
                for form in [some_followers(n, conditions, choose), some_forms(n, choose.randint(0, 10 ** 6), 1, 20)[1]]:
                    found = judge_under(form, conditions)
                    numbers = [k for _, k in found[1]] if found[0] == "broken" else [k for _, k in found[2]] + [found[1]] + list(found[3])
                    self.assertTrue(all(abs(number) < 10 ** 1000 for number in numbers))

    def test_bad_forms_and_conditions(self):
        for call, more in ((judge_under, ()), (under_holds, (None,)), (is_following, ())):
            for thing in NO_FORMS_IN_PART:
                self.assert_thing(BadForm, thing, call, thing, CIPHER, *more)
                self.assert_thing(BadForm, thing, call, thing, None, *more)
            for n in (3, 4):
                for thing in no_conditions(n):
                    self.assert_thing(BadForms, thing, call, (n, ()), thing, *more)
        for n in (3, 4):
            self.assert_thing(BadForms, ((7 - n, ()),), judge_under, form=(n, ()), conditions=((7 - n, ()),))
            self.assert_thing(BadForms, [], under_holds, form=(n, ()), conditions=[], thing=("sum", 1, (), ()))
            self.assert_thing(BadForms, None, is_following, form=(n, (((0,), 1),)), conditions=None)
        self.assert_thing(BadForm, (5, ()), under_holds, form=(5, ()), conditions=((5, ()),), thing=("sum", 1, (), (0,)))


class TestUnderHolds(JudgedUnder):

    def test_told_certificates(self):
        self.assert_true(under_holds((3, (((0,), 1),)), (), (
            "sum", 1, ((("alone", 0), 1), (("shared", 0, 1, (2,)), 1), (("shared", 0, 2, ()), 1)), ())))
        self.assert_true(under_holds(KEY, (), ("broken", ((("hit", (0,)), 2),))))
        self.assert_true(under_holds(form=KEY, conditions=(), thing=("broken", ((("hit", (0,)), 10 ** 99),))))
        self.assert_false(under_holds(KEY, (), ("broken", ((("hit", (0, 1)), 2),))))
        self.assert_false(under_holds(KEY, (), ("broken", ())))
        self.assert_false(under_holds(KEY, CIPHER, ("broken", ((("hit", (0,)), 2),))))
        self.assert_true(under_holds(KEY, CIPHER[:1], ("broken", ((("hit", (0,)), 2),))))
        self.assert_true(under_holds((3, ()), CIPHER, ("sum", 7, (), (0, 0))))
        self.assert_false(under_holds((3, ()), CIPHER, ("sum", 7, (), (0, 1))))
        self.assert_false(under_holds((3, ()), CIPHER, ("broken", ())))
        self.assert_true(under_holds(CIPHER[1], CIPHER, ("sum", 10 ** 99, (), (0, 10 ** 99))))
        four = (4, (((0,), -1), ((0, 1), 1), ((0, 1, 2), -1), ((0, 1, 3), -1), ((0, 2), 1), ((0, 3), 1), ((1,), -1), ((1, 2), 1),
                    ((1, 3), 1), ((2, 3), -1)))
        self.assert_true(under_holds(four, (), ("sum", 1, ((("four", 0, 1), 1),), ())))
        self.assert_false(under_holds(four, (four,), ("sum", 1, ((("four", 0, 1), 1),), (1,))))
        self.assert_true(under_holds(four, (four,), ("sum", 2, ((("four", 0, 1), 1),), (1,))))
        pair = ((("hit", (2, 3)), 10 ** 99),)
        for name in told_names_by_hand(4):
            self.assertIs(under_holds(times_form(four, -1), (four,), ("broken", ((name, 1),))), value_by_hand(four, TABLES[4][name]) > 0)
        self.assert_true(under_holds(times_form(four, -1), (four,), ("broken", pair)))

    def test_certificates_with_one_part_changed(self):
        choose = random.Random(15)
        for n, many in ((3, 21), (4, 7)):
            right = 0
            for conditions in some_conditions(n, 16, many):
                for form in [some_followers(n, conditions, choose), some_forms(n, choose.randint(0, 10 ** 6), 1, 3)[1]]:
                    for thing in changed(n, judge_under(form, conditions)):
                        wanted = is_right(form, conditions, thing)
                        right += wanted
                        self.assertIs(under_holds(form, conditions, thing), wanted, thing)
            self.assertGreater(right, 60)

    def test_told_sums_of_others(self):
        choose = random.Random(17)
        for n, many in ((3, 28), (4, 14)):
            kinds = {True: 0, False: 0}
            for conditions in some_conditions(n, 18, many):
                form = some_forms(n, choose.randint(0, 10 ** 6), 1, 2)[1]
                for _ in range(25):
                    names = sorted(choose.sample(told_names_by_hand(n), choose.randint(0, 4)))
                    told = tuple((name, choose.choice([1, 1, 2, 10 ** 70])) for name in names)
                    wanted = is_right(form, conditions, ("broken", told))
                    kinds[wanted] += 1
                    self.assertIs(under_holds(form, conditions, ("broken", told)), wanted)
                    if len(told) > 1:
                        self.assert_false(under_holds(form, conditions, ("broken", told[::-1])))
            self.assertGreater(min(kinds.values()), 20)

    def test_told_sums_that_are_nearly_right(self):
        # A condition whose value comes to 0 at the told sum, and then to one below it.
        for n in (3, 4):
            told = ((("hit", (0,)), 3), (("hit", (0, 1)), 2), (("hit", (1, 2)), 5))
            numbers = told_sum_by_hand(n, told)
            form = (n, (((2,), -1),))
            for lot in all_lots(n):
                for more in (-1, 0, 1):
                    condition = form_by_hand(n, [(-numbers[(2,)], {lot: 1}), (numbers[lot], {(2,): 1}), (more, {(2,): 1})])
                    self.assertIs(under_holds(form, (condition,), ("broken", told)), value_by_hand(condition, numbers) >= 0)

    def test_sums_of_others(self):
        choose = random.Random(19)
        for n in (3, 4):
            for conditions in some_conditions(n, 20, 14):
                factors = tuple(choose.choice([0, 1, 10 ** 40]) for _ in conditions)
                terms = tuple((name, choose.choice([1, 10 ** 80])) for name in sorted(choose.sample(sum_names_by_hand(n), 5)))
                pairs = [(k, named_by_hand(n, name)) for name, k in terms] + [(k, dict(each[1])) for k, each in zip(factors, conditions)]
                form = form_by_hand(n, pairs)
                self.assert_true(under_holds(form, conditions, ("sum", 1, terms, factors)))
                self.assert_false(under_holds(form, conditions, ("sum", 1, terms[::-1], factors)))
                if form[1]:
                    self.assert_false(under_holds(times_form(form, 2), conditions, ("sum", 1, terms, factors)))
                    self.assert_false(under_holds(form, conditions, ("sum", 2, terms, factors)))

    def test_sums_with_factors_below_0(self):
        # They add up, but a condition that is taken away shows nothing.
        for n in (3, 4):
            form = (n, (((0,), 1), ((1,), -2)))
            for k in (1, 2, 10 ** 90):
                self.assert_false(under_holds(times_form(form, -k), (form,), ("sum", 1, (), (-k,))))
                self.assert_false(under_holds(form, (form, form), ("sum", 1, (), (k + 1, -k))))
                self.assert_true(under_holds(times_form(form, k), (form,), ("sum", 1, (), (k,))))
                self.assert_true(under_holds(form, (form, form), ("sum", k + 1, (), (k, 1))))

    def test_certificates_for_other_conditions(self):
        conditions = (CIPHER[0], times_form(CIPHER[1], 2))
        _, m, terms, (first, second) = judge_under(KEY, CIPHER)
        m, terms, factors = 2 * m, tuple((name, 2 * k) for name, k in terms), (2 * first, second)
        self.assertNotEqual(2 * first, second)
        for other, told, wanted in [
            (conditions, factors, True), (conditions[::-1], factors, False), (conditions[::-1], factors[::-1], True),
            (conditions[:1], factors, False), (conditions[:1], factors[:1], False), (conditions * 2, factors, False),
            (conditions * 2, factors + (0, 0), True), (conditions * 2, (0, factors[1], factors[0], 0), True), (CIPHER, factors, False),
        ]:
            self.assertIs(under_holds(KEY, other, ("sum", m, terms, told)), wanted, (other, told))

    def test_nearly_certificates(self):
        alone = (("alone", 0), 1)
        form = (3, (((0, 1, 2), 1), ((1, 2), -1)))
        conditions = ((3, (((0,), 1),)),)
        self.assert_true(under_holds(form, conditions, ("sum", 1, (alone,), (0,))))
        for thing in [
            ["sum", 1, (alone,), (0,)], ("sum", 1, (alone,), [0]), ("sum", 1, [alone], (0,)), ("sum", 1, (list(alone),), (0,)),
            ("sum", True, (alone,), (0,)), ("sum", 1, (alone,), (False,)), ("sum", 1, ((("alone", 0), True),), (0,)), ("sum", 1, (alone,)),
            ("sum", 1, ((("alone", False), 1),), (0,)), ("sum", 1, (alone,), ()), ("sum", 1, (alone,), (0, 0)), ("sum", 1, (alone,), (None,)),
            ("sum", 1, (alone,), ("0",)), ("sum", 1, (alone,), 0), ("sum", 1, (alone,), None), ("sum", 1, (alone,), (0,), ()), ("sum", 0, (alone,), (0,)),
            ("sum", -1, ((("alone", 0), -1),), (0,)), ("sum", 1, (alone, alone), (0,)), ("sum", 2, (alone, alone), (0,)), ("sum", 1, None, (0,)),
            ("sum", 1, (alone,), (1,)), ("sum", 1, (alone,), (-1,)), ("sum", None, (alone,), (0,)), ("Sum", 1, (alone,), (0,)), ("sum", 1, alone, (0,)),
            ("sum", 1, ((("alone", 1), 1),), (0,)), ("sum", 1, ((["alone", 0], 1),), (0,)), ("sum", 1, ((("alone", 3), 1),), (0,)), ("sum",),
            ("sum", 1, ((("four", 0, 1), 1),), (0,)), ("sum", 1, (alone,), {0: 0}), ("broken", 1, (alone,), (0,)), (["sum"], 1, (alone,), (0,)),
            ("sum", 1, (alone, (("alone", 1), 0)), (0,)), ("sum", 1, (alone,), ((0,),)), ("sum", 1, ("alone",), (0,)), (1, (alone,), (0,), "sum"),
        ] + ODD:
            self.assert_false(under_holds(form, conditions, thing), thing)
        hit = (("hit", (0,)), 2)
        for thing in [
            ["broken", (hit,)], ("broken", [hit]), ("broken", (list(hit),)), ("broken", hit), ("broken", (hit, hit)), ("broken", ((("hit", (0,)), True),)),
            ("broken", ((("hit", [0]), 2),)), ("broken", ((("hit", (False,)), 2),)), ("broken", ((("hit", (0,)), 0),)), ("broken", ((("hit", (0,)), -1),)),
            ("broken", ((("hit", (0,)),),)), ("broken", ((("hit", (0,)), 2, 2),)), ("broken", ((("hit", (0,)), None),)), ("broken", (hit, None)),
            ("broken", ((("hit", (0,)), "2"),)), ("broken", ((("hit", ()), 2),)), ("broken", ((("hit", (3,)), 2),)), ("broken", ((("wide", 0), 2),)),
            ("broken", ((("three", 1), 2),)), ("broken", {("hit", (0,)): 2}), ("broken", (hit,), ()), ("broken",), ("broken", "hit"), ("broken", None),
            ("broken", ("hit", (0,))), ("Broken", (hit,)), ("sum", (hit,)), ("broken", 2), (None, (hit,)), ("broken", (("hit", 2),)), ("broken", (None,)),
            ("broken", ((("hit", (1,)), 1), (("hit", (0,)), 2))), ("broken", ((["hit", (0,)], 2),)), ("table", (hit,)), ("broken", ((("corner",), 2),)),
        ] + ODD:
            self.assert_false(under_holds(KEY, (), thing), thing)
        self.assert_true(under_holds(KEY, (), ("broken", (hit,))))
        self.assert_true(under_holds(KEY, (), ("broken", ((("hit", (0,)), 2), (("three",), 10 ** 99)))))
        self.assert_false(under_holds((4, KEY[1]), (), ("broken", ((("three",), 1),))))


class TestTables(Checked):

    def test_tables_by_hand_are_of_all_lots(self):
        for n in (3, 4):
            for numbers in TABLES[n].values():
                self.assertEqual(sorted(numbers), all_lots(n))
