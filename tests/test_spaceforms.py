"""Forms of four things at the ranks of all systems, with certificates of both kinds ([4.2], [4.4])."""

import random
from itertools import product

from tests.checks import ODD, Checked
from tests.hand import (
    FOURS, PAIRS, TABLES, form_by_hand, four_by_hand, is_named_list, named_by_hand, nearly, some_named_sums, sum_names_by_hand,
    told_names_by_hand, total_by_hand, value_by_hand,
)
from tests.test_forms import NO_FORMS, all_lots, some_forms
from tests.test_judge_basic import some_sums
from tests.test_spaces import some_systems
from toldamounts.basics import judge_basic
from toldamounts.errors import BadForm, BadNumber, BadPrime
from toldamounts.forms import led_form, times_form, value_at
from toldamounts.spaceforms import breaking_system, four_form, judge_spaces, spaces_hold
from toldamounts.spaces import is_system, ranks_of

EMPTY = (4, ())
LESS = (4, (((0,), 1), ((2,), -1)))
FOUR = form_by_hand(4, [(1, four_by_hand(0, 1))])
NO_FORMS_OF_FOUR = [thing for thing in NO_FORMS if thing != EMPTY] + [
    (1, ()), (2, (((0,), 1),)), (3, ()), (3, (((0, 1, 2), 5),)), (5, ()), (5, (((0, 1, 2, 3), 1),))]


def is_right(form, thing):
    """Whether a certificate is right: added up lot by lot, or looked up at the told lot's table."""
    if thing[0] == "broken":
        return len(thing) == 2 and thing[1] in told_names_by_hand(4) and value_by_hand(form, TABLES[4][thing[1]]) < 0
    _, m, terms = thing
    if m < 1 or not is_named_list(terms, sum_names_by_hand(4)):
        return False
    total = total_by_hand([(k, named_by_hand(4, name)) for name, k in terms])
    return total == {lot: m * factor for lot, factor in form[1]}


def is_broken(form):
    """Whether the value of a form is below 0 at one of the told tables."""
    return any(value_by_hand(form, numbers) < 0 for numbers in TABLES[4].values())


def changed(found):
    """A certificate of the kind "sum", and the same with one part changed."""
    _, m, terms = found
    yield found
    for more in (-m, -1, 1, m):
        yield "sum", m + more, terms
    yield "sum", 7 * m, tuple((name, 7 * k) for name, k in terms)
    for at, (name, k) in enumerate(terms):
        yield "sum", m, terms[:at] + terms[at + 1:]
        yield "sum", m, terms[:at] + (terms[at],) * 2 + terms[at + 1:]
        for more in (-k, -1, 1):
            yield "sum", m, terms[:at] + ((name, k + more),) + terms[at + 1:]
        for other in sum_names_by_hand(4):
            yield "sum", m, terms[:at] + ((other, k),) + terms[at + 1:]


class TestFourForms(Checked):

    def test_told_form(self):
        self.assert_same(four_form(0, 1), (4, (
            ((0,), -1), ((0, 1), 1), ((0, 1, 2), -1), ((0, 1, 3), -1), ((0, 2), 1), ((0, 3), 1), ((1,), -1), ((1, 2), 1), ((1, 3), 1),
            ((2, 3), -1))))
        self.assert_same(four_form(i=1, j=2), (4, (
            ((0, 1), 1), ((0, 1, 2), -1), ((0, 2), 1), ((0, 3), -1), ((1,), -1), ((1, 2), 1), ((1, 2, 3), -1), ((1, 3), 1), ((2,), -1),
            ((2, 3), 1))))

    def test_all_six(self):
        for i, j in PAIRS:
            self.assert_same(four_form(i, j), form_by_hand(4, [(1, four_by_hand(i, j))]))
            k, other = [thing for thing in range(4) if thing not in (i, j)]
            self.assert_same(led_form(FOUR, (i, j, k, other)), four_form(i, j))
        self.assertEqual(len({four_form(i, j) for i, j in PAIRS}), 6)

    def test_they_are_not_below_0_at_ranks(self):
        for p, d in product((2, 3, 5, 7), (2, 3, 5, 8)):
            for system in some_systems(p, d, 900 + 10 * p + d, 12):
                for i, j in PAIRS:
                    self.assertGreaterEqual(value_at(four_form(i, j), ranks_of(system)), 0)

    def test_bad_numbers(self):
        for thing in [odd for odd in ODD if odd.__class__ is not int or not 0 <= odd <= 3] + [4, -1, "0", (0,), [2]]:
            self.assert_thing(BadNumber, thing, four_form, thing, 1)
            self.assert_thing(BadNumber, thing, four_form, thing, "j")
            self.assert_thing(BadNumber, thing, four_form, 0, thing)
            self.assert_thing(BadNumber, thing, four_form, i=2, j=thing)
            self.assert_thing(BadNumber, thing, four_form, i=thing, j=thing)
        for i, j in product(range(4), repeat=2):
            if j <= i:
                self.assert_thing(BadNumber, j, four_form, i, j)


class JudgedSpaces(Checked):

    def check(self, form, kind=None):
        found = judge_spaces(form)
        self.assertIs(found.__class__, tuple)
        self.assertEqual(len(found), {"sum": 3, "broken": 2}[found[0]])
        self.assertTrue(is_right(form, found), (form, found))
        self.assertEqual(found[0], "broken" if is_broken(form) else "sum", form)
        self.assert_true(spaces_hold(form, found))
        if kind:
            self.assertEqual(found[0], kind, form)
        return found


class TestJudgeSpaces(JudgedSpaces):

    def test_told_forms(self):
        self.check(FOUR, "sum")
        self.check(LESS, "broken")
        self.check((4, (((0, 1, 2, 3), 1),)), "sum")
        self.check((4, (((0, 1, 2, 3), -1),)), "broken")
        self.assert_same(judge_spaces(form=FOUR)[0], "sum")

    def test_the_form_with_no_terms(self):
        found = self.check(EMPTY, "sum")
        self.assert_same(found[2], ())

    def test_named_forms_their_multiples_and_opposites(self):
        for name in sum_names_by_hand(4):
            for k in (1, 2, 50):
                self.check(form_by_hand(4, [(k, named_by_hand(4, name))]), "sum")
                self.check(form_by_hand(4, [(-k, named_by_hand(4, name))]), "broken")

    def test_sums_their_multiples_and_such_with_one_factor_changed(self):
        kinds = {"sum": 0, "broken": 0}
        for form in some_named_sums(4, 1, 12) + some_sums(4, 2, 4):
            self.check(form, "sum")
            self.check(times_form(form, 3), "sum")
            for other in nearly(form):
                kinds[self.check(other)[0]] += 1
        self.assertGreater(min(kinds.values()), 50)

    def test_sums_that_are_just_reached(self):
        # Lifted by as much as is needed at all told lots, and by 1 less.
        choose = random.Random(3)
        kinds = {"sum": 0, "broken": 0}
        for form in some_forms(4, 4, 40, 6):
            worst, name = min((value_by_hand(form, numbers), name) for name, numbers in TABLES[4].items())
            lot = choose.choice([lot for lot in all_lots(4) if TABLES[4][name][lot] > 0])
            steps = max(0, -worst)
            for more in (steps, steps - 1, steps + 1):
                kinds[self.check(form_by_hand(4, [(1, dict(form[1])), (more, {lot: 1})]))[0]] += 1
            full = {(thing,): 1 for thing in range(4)}
            self.check(form_by_hand(4, [(1, dict(form[1])), (steps, full)]), "sum")
        self.assertGreater(min(kinds.values()), 10)

    def test_factors_up_to_a_hundred(self):
        for form in some_forms(4, 5, 60, 100):
            self.check(form)
        for form in some_named_sums(4, 6, 40, 12):
            if all(abs(factor) <= 100 for _, factor in form[1]):
                self.check(form, "sum")

    def test_sums_of_basic_forms_are_such_and_not_all_are(self):
        for form in some_forms(4, 7, 30, 3) + some_named_sums(4, 8, 30, 2):
            if judge_basic(form)[0] == "sum":
                self.check(form, "sum")
        for i, j in PAIRS:
            self.assertEqual(judge_basic(four_form(i, j))[0], "table")

    def test_values_at_ranks_of_any_systems(self):
        forms = [form for form in some_named_sums(4, 9, 10)]
        for p, d in product((2, 3, 5, 7), (1, 3, 8)):
            for system in some_systems(p, d, 800 + 10 * p + d, 6):
                for form in forms:
                    self.assertGreaterEqual(value_at(form, ranks_of(system)), 0)

    def test_integers_are_short(self):
        for form in some_named_sums(4, 10, 30, 50):
            _, m, terms = self.check(form, "sum")
            self.assertTrue(all(abs(k) < 10 ** 1000 for k in [m] + [k for _, k in terms]))

    def test_bad_forms(self):
        for thing in NO_FORMS_OF_FOUR:
            self.assert_thing(BadForm, thing, judge_spaces, thing)
            self.assert_thing(BadForm, thing, judge_spaces, form=thing)
            self.assert_thing(BadForm, thing, spaces_hold, thing, ("sum", 1, ()))
            self.assert_thing(BadForm, thing, spaces_hold, form=thing, thing=None)


class TestSpacesHold(JudgedSpaces):

    def test_told_certificates(self):
        self.assert_true(spaces_hold(LESS, ("broken", ("hit", (1, 2)))))
        self.assert_false(spaces_hold(LESS, ("broken", ("hit", (0, 2)))))
        self.assert_false(spaces_hold(LESS, ("broken", ("hit", (0,)))))
        self.assert_true(spaces_hold(form=FOUR, thing=("sum", 1, ((("four", 0, 1), 1),))))
        self.assert_true(spaces_hold(FOUR, ("sum", 10 ** 99, ((("four", 0, 1), 10 ** 99),))))
        self.assert_true(spaces_hold(EMPTY, ("sum", 10 ** 99, ())))
        self.assert_false(spaces_hold(EMPTY, ("sum", 0, ())))
        self.assert_false(spaces_hold(FOUR, ("sum", 1, ())))

    def test_all_told_lots(self):
        for form in [LESS, FOUR, EMPTY] + some_forms(4, 11, 20, 3) + some_named_sums(4, 12, 4):
            for name in told_names_by_hand(4):
                self.assertIs(spaces_hold(form, ("broken", name)), value_by_hand(form, TABLES[4][name]) < 0)
            self.assert_false(spaces_hold(form, ("broken", ("three",))))

    def test_certificates_with_one_part_changed(self):
        right = 0
        for form in some_named_sums(4, 13, 10) + [FOUR, EMPTY]:
            for thing in changed(judge_spaces(form)):
                wanted = is_right(form, thing)
                right += wanted
                self.assertIs(spaces_hold(form, thing), wanted, thing)
        self.assertGreater(right, 20)

    def test_certificates_of_others(self):
        choose = random.Random(14)
        for _ in range(20):
            names = sorted(name for name in sum_names_by_hand(4) if choose.random() < 0.4)
            terms = tuple((name, choose.choice([1, 2, 10 ** 60])) for name in names)
            form = form_by_hand(4, [(k, named_by_hand(4, name)) for name, k in terms])
            self.assert_true(spaces_hold(form, ("sum", 1, terms)))
            self.assert_true(spaces_hold(form, ("sum", 10 ** 90, tuple((name, 10 ** 90 * k) for name, k in terms))))
            if form[1]:
                self.assert_false(spaces_hold(times_form(form, 2), ("sum", 1, terms)))
            self.assert_true(spaces_hold(times_form(form, 2), ("sum", 1, tuple((name, 2 * k) for name, k in terms))))
            self.assertIs(spaces_hold(form, ("sum", 1, terms[::-1])), len(terms) < 2)

    def test_the_other_kind_does_not_hold(self):
        sums = some_named_sums(4, 15, 6)
        broken = [form for form in some_forms(4, 16, 12) if is_broken(form)]
        for one, other in product(sums, broken):
            self.assert_false(spaces_hold(one, judge_spaces(other)))
            self.assert_false(spaces_hold(other, judge_spaces(one)))

    def test_nearly_certificates(self):
        one = (("four", 0, 1), 1)
        for thing in [
            ["sum", 1, (one,)], ("sum", 1, [one]), ("sum", 1, (list(one),)), ("sum", 1, ((["four", 0, 1], 1),)), ("sum", True, (one,)),
            ("sum", 1, ((("four", 0, 1), True),)), ("sum", 1, ((("four", 0, True), 1),)), ("sum", 1, ((("four", False, 1), 1),)),
            ("sum", 0, (one,)), ("sum", -1, ((("four", 0, 1), -1),)), ("sum", 2, (one,)), ("sum", 1, ((("four", 0, 1), 2),)), ("sum", 1),
            ("sum", 1, ((("four", 1, 0), 1),)), ("sum", 1, ((("four", 0, 2), 1),)), ("sum", 1, ((("four", 2, 3), 1),)), ("sum", 1, (one,), ()),
            ("sum", 1, (one, one)), ("sum", 2, (one, one)), ("sum", 1, ((("four", 0, 1, ()), 1),)), ("sum", 1, ((("four", (0, 1)), 1),)),
            ("sum", 1, (one, (("four", 0, 2), 0))), ("sum", 1, one), ("sum", None, (one,)), ("sum", "1", (one,)), ("sum", 1, None),
            ("sum", 1, {("four", 0, 1): 1}), ("sum", 1, (one, None)), ("sum", 1, ((("copy", 0, 1), 1),)), ("Sum", 1, (one,)), (1, (one,)),
            ("sum", 1, ((("four", 0, 4), 1),)), ("sum", 1, ((("four", -1, 0), 1),)), ("sum", 1, ((("four", 0), 1),)), ("sum", (one,), 1),
            ("broken", 1, (one,)), ("broken", ("four", 0, 1)), ("table", 1, (one,)), ("sum", ("hit", (0,))), ([], 1, (one,)),
        ] + ODD:
            self.assert_false(spaces_hold(FOUR, thing), thing)
        for thing in [
            ["broken", ("hit", (1, 2))], ("broken", ["hit", (1, 2)]), ("broken", ("hit", [1, 2])), ("broken", ("hit", (True, 2))),
            ("broken", ("hit", (2, 1))), ("broken", ("hit", (1, 2)), ()), ("broken", "hit"), ("broken",), ("broken", ()), ("broken", None),
            ("broken", ("hit", ())), ("broken", ("hit", (2, 4))), ("broken", ("Hit", (1, 2))), ("Broken", ("hit", (1, 2))), ("broken", {}),
            ("broken", (("hit", (1, 2)),)), ("broken", ((("hit", (1, 2)), 1),)), ("broken", ("wide", True)), ("broken", 2), (None, ("hit", (2,))),
        ] + ODD:
            self.assert_false(spaces_hold(LESS, thing), thing)
        self.assert_true(spaces_hold(LESS, ("broken", ("hit", (2,)))))


class TestBreakingSystem(Checked):

    def test_told_systems(self):
        for p in (2, 3, 5, 7):
            self.assertIs(breaking_system(p, FOUR), None)
            self.assertIs(breaking_system(p=p, form=EMPTY), None)
            found = breaking_system(p, LESS)
            self.assert_true(is_system(found))
            self.assertEqual(found[0], p)
            self.assertLess(value_at(LESS, ranks_of(found)), 0)

    def test_systems_that_break_forms_for_each_prime(self):
        kinds = {True: 0, False: 0}
        forms = some_forms(4, 17, 15, 3) + some_named_sums(4, 18, 8)
        for form in some_named_sums(4, 19, 4):
            forms += nearly(form)
        for form in forms:
            kinds[is_broken(form)] += 1
            for p in (2, 3, 5, 7):
                found = breaking_system(p, form)
                if is_broken(form):
                    self.assert_true(is_system(found))
                    self.assertEqual(found[0], p)
                    self.assertLess(value_at(form, ranks_of(found)), 0)
                else:
                    self.assertIs(found, None)
        self.assertGreater(min(kinds.values()), 10)

    def test_forms_that_only_one_told_lot_breaks(self):
        # A multiple of the named forms that are nought at a told lot, less one at it.
        for name in told_names_by_hand(4):
            zero = [four for four in sum_names_by_hand(4) if value_by_hand(form_by_hand(4, [(1, named_by_hand(4, four))]), TABLES[4][name]) == 0]
            lot = (0, 1, 2, 3)
            form = form_by_hand(4, [(50, named_by_hand(4, four)) for four in zero] + [(-1, {lot: 1})])
            broken = [told for told in told_names_by_hand(4) if value_by_hand(form, TABLES[4][told]) < 0]
            self.assertEqual(broken, [name])
            self.assert_same(judge_spaces(form), ("broken", name))
            for p in (2, 3, 5, 7):
                self.assertLess(value_at(form, ranks_of(breaking_system(p, form))), 0)

    def test_bad_forms_and_primes(self):
        for thing in NO_FORMS_OF_FOUR:
            self.assert_thing(BadForm, thing, breaking_system, 2, thing)
            self.assert_thing(BadForm, thing, breaking_system, p=4, form=thing)
            self.assert_thing(BadForm, thing, breaking_system, None, thing)
        for thing in [odd for odd in ODD if odd != 5] + [4, 6, 9, 11, "2", (2,), [3], -7]:
            for form in (FOUR, LESS):
                self.assert_thing(BadPrime, thing, breaking_system, thing, form)
                self.assert_thing(BadPrime, thing, breaking_system, p=thing, form=form)


class TestNames(Checked):

    def test_there_are_thirty_four_named_forms(self):
        self.assertEqual(len(sum_names_by_hand(4)), 34)
        self.assertEqual(len(FOURS), 6)
        for name in sum_names_by_hand(4):
            form = form_by_hand(4, [(1, named_by_hand(4, name))])
            self.assert_true(spaces_hold(form, ("sum", 1, ((name, 1),))))
