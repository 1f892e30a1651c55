"""Forms that are sums of basic forms, with certificates of both kinds ([3.3], [6.3])."""

import random
from itertools import combinations, product

from tests.checks import ODD, Checked
from tests.test_basics import basic_by_hand, is_kept_by_hand, names_by_hand
from tests.test_forms import NO_FORMS, all_lots, some_forms
from toldamounts.basics import basic_holds, basic_names, judge_basic
from toldamounts.errors import BadForm
from toldamounts.forms import plus_forms, times_form, value_at

FORM = (2, (((0, 1), 1), ((1,), -1)))
# The eight tables that are told for three things: seven lots that are hit, and three of which any two tell the third.
EIGHT = [tuple(int(bool(set(lot) & set(hit))) for lot in all_lots(3)) for hit in all_lots(3)]
EIGHT.append(tuple(1 if len(lot) == 1 else 2 for lot in all_lots(3)))
INGLETON = (4, (((0,), -1), ((0, 1), 1), ((0, 1, 2), -1), ((0, 1, 3), -1), ((0, 2), 1), ((0, 3), 1), ((1,), -1), ((1, 2), 1),
                ((1, 3), 1), ((2, 3), -1)))


def is_right(form, thing):
    """Whether a certificate of the right shape is right, added up lot by lot."""
    n, terms = form
    if thing[0] == "sum":
        total = {lot: 0 for lot in all_lots(n)}
        for name, many in thing[2]:
            for lot, factor in basic_by_hand(n, name).items():
                total[lot] += many * factor
        return all(total[lot] == thing[1] * dict(terms).get(lot, 0) for lot in all_lots(n))
    numbers = thing[1][1]
    value = sum(factor * numbers[all_lots(n).index(lot)] for lot, factor in terms)
    return is_kept_by_hand(n, numbers) and value < 0


def is_shaped(n, thing):
    """Whether a value has the shape of a certificate."""
    if thing[0] == "sum":
        names = [name for name, _ in thing[2]]
        positive = all(many.__class__ is int and many > 0 for _, many in thing[2]) and thing[1] > 0
        return positive and set(names) <= set(names_by_hand(n)) and names == sorted(set(names))
    return thing[1][0] == n and len(thing[1][1]) == 2 ** n - 1


def sum_of(n, weights):
    """The form that is the sum of basic forms with weights, worked out by hand."""
    total = {}
    for name, weight in weights.items():
        for lot, factor in basic_by_hand(n, name).items():
            total[lot] = total.get(lot, 0) + weight * factor
    return n, tuple(sorted((lot, factor) for lot, factor in total.items() if factor))


def some_sums(n, seed, many, most=5):
    choose = random.Random(seed)
    return [sum_of(n, {name: choose.randint(1, most) for name in names_by_hand(n) if choose.random() < 0.4}) for _ in range(many)]


class JudgedForms(Checked):

    def check(self, form, kind=None):
        found = judge_basic(form)
        self.assertIs(found.__class__, tuple)
        self.assertIn(found[0], ("sum", "table"))
        self.assertEqual(len(found), 3 if found[0] == "sum" else 2)
        self.assertTrue(is_shaped(form[0], found), found)
        self.assertTrue(is_right(form, found), (form, found))
        self.assert_true(basic_holds(form, found))
        if kind:
            self.assertEqual(found[0], kind, form)
        return found


class TestJudgeBasic(JudgedForms):

    def test_told_forms(self):
        self.check(FORM, "sum")
        self.check((2, (((0,), 1), ((1,), -1))), "table")
        self.check((1, (((0,), 7),)), "sum")
        self.check((1, (((0,), -7),)), "table")
        self.check((2, (((0,), 1),)), "sum")
        self.check((2, (((0,), 1), ((0, 1), -1))), "table")
        self.check((4, (((0, 1, 2, 3), 1),)), "sum")
        self.assert_same(judge_basic(form=FORM)[0], "sum")

    def test_the_form_with_no_terms(self):
        for n in range(1, 5):
            found = self.check((n, ()), "sum")
            self.assert_same(found[2], ())

    def test_basic_forms_and_their_opposites(self):
        for n in range(1, 5):
            for name in names_by_hand(n):
                self.check(sum_of(n, {name: 1}), "sum")
                self.check(sum_of(n, {name: 1000}), "sum")
                self.check(sum_of(n, {name: -1}), "table")

    def test_sums_their_multiples_and_such_with_one_factor_changed(self):
        kinds = {"sum": 0, "table": 0}
        for n in range(1, 5):
            for form in some_sums(n, n, 12):
                self.check(form, "sum")
                self.check(times_form(form, 7), "sum")
                if form[1]:
                    self.check(times_form(form, -3), "table")
                for lot in all_lots(n):
                    for more in (-1, 1):
                        kinds[self.check(plus_forms(form, (n, ((lot, more),))))[0]] += 1
        self.assertGreater(min(kinds.values()), 100)

    def test_sums_that_are_made_of_halves_and_thirds(self):
        for n in (3, 4):
            for form in some_sums(n, 70 + n, 25, 3):
                for k in (2, 3, 5):
                    if all(factor % k == 0 for _, factor in form[1]):
                        self.check((n, tuple((lot, factor // k) for lot, factor in form[1])), "sum")

    def test_factors_up_to_a_thousand(self):
        for n in range(1, 5):
            for form in some_forms(n, 80 + n, 40, 1000):
                self.check(form)
            for form in some_sums(n, 90 + n, 20, 60):
                if all(abs(factor) <= 1000 for _, factor in form[1]):
                    self.check(form, "sum")

    def test_forms_of_two_things_with_small_factors(self):
        for factors in product(range(-2, 3), repeat=3):
            form = (2, tuple((lot, factor) for lot, factor in zip(all_lots(2), factors) if factor))
            broken = any(value_at(form, (2, numbers)) < 0 for numbers in [(1, 1, 0), (0, 1, 1), (1, 1, 1)])
            self.check(form, "table" if broken else "sum")

    def test_forms_of_three_things_by_the_eight_tables(self):
        kinds = {"sum": 0, "table": 0}
        forms = some_forms(3, 100, 200, 4) + some_sums(3, 101, 60)
        for form in some_sums(3, 102, 30):
            forms += [plus_forms(form, (3, ((lot, more),))) for lot in all_lots(3) for more in (-1, 1)]
        for form in forms:
            broken = any(value_at(form, (3, numbers)) < 0 for numbers in EIGHT)
            kinds["table" if broken else "sum"] += 1
            self.check(form, "table" if broken else "sum")
        self.assertGreater(min(kinds.values()), 100)

    def test_forms_that_just_come_to_nought_at_the_eight_tables(self):
        choose = random.Random(7)
        for _ in range(60):
            form = some_forms(3, choose.randint(0, 10 ** 6), 1, 6)[1]
            least = min(value_at(form, (3, numbers)) for numbers in EIGHT)
            full = (3, (((0,), 1), ((1,), 1), ((2,), 1)))
            lifted = plus_forms(form, times_form(full, max(0, -least)))
            self.check(lifted, "sum")

    def test_a_form_of_four_things_that_ranks_keep_is_no_sum(self):
        self.check(INGLETON, "table")
        for lot in combinations(range(4), 2):
            self.check(plus_forms(INGLETON, (4, ((lot, 1),))))
        self.check(plus_forms(INGLETON, sum_of(4, {("shared", 0, 1, ()): 1})), "sum")
        self.check(plus_forms(times_form(INGLETON, 100), sum_of(4, {("shared", 0, 1, ()): 99})), "table")
        self.check(plus_forms(times_form(INGLETON, 100), sum_of(4, {("shared", 0, 1, ()): 100})), "sum")

    def test_integers_are_short(self):
        for form in some_forms(4, 110, 60, 1000):
            found = judge_basic(form)
            numbers = [many for _, many in found[2]] + [found[1]] if found[0] == "sum" else list(found[1][1])
            self.assertTrue(all(abs(number) < 10 ** 1000 for number in numbers))

    def test_bad_forms(self):
        for thing in NO_FORMS + [(5, ()), (5, (((0,), 1),)), (5, (((0, 1, 2, 3, 4), 1),))]:
            self.assert_thing(BadForm, thing, judge_basic, thing)
            self.assert_thing(BadForm, thing, judge_basic, form=thing)
            self.assert_thing(BadForm, thing, basic_holds, thing, ("sum", 1, ()))
            self.assert_thing(BadForm, thing, basic_holds, thing, None)


class TestBasicHolds(JudgedForms):

    def test_told_certificates(self):
        self.assert_true(basic_holds((2, (((0,), 1), ((1,), -1))), ("table", (2, (0, 1, 1)))))
        self.assert_true(basic_holds(form=FORM, thing=("sum", 1, ((("alone", 0), 1),))))
        self.assert_true(basic_holds(FORM, ("sum", 10 ** 99, ((("alone", 0), 10 ** 99),))))
        self.assert_true(basic_holds((3, (((0,), 1),)), ("sum", 2, (
            (("alone", 0), 2), (("shared", 0, 1, ()), 1), (("shared", 0, 1, (2,)), 1), (("shared", 0, 2, ()), 1), (("shared", 0, 2, (1,)), 1)))))
        self.assert_true(basic_holds((2, ()), ("sum", 5, ())))
        self.assert_false(basic_holds((2, ()), ("table", (2, (0, 0, 0)))))
        self.assert_false(basic_holds((2, (((0,), 1),)), ("sum", 5, ())))
        self.assert_false(basic_holds((2, (((0,), 1), ((1,), -1))), ("table", (2, (1, 1, 1)))))

    def test_certificates_with_one_integer_changed(self):
        right = 0
        for n in range(1, 5):
            forms = some_sums(n, 120 + n, 5) + some_forms(n, 130 + n, 5)
            for form in forms:
                found = judge_basic(form)
                for thing in changed_certificates(n, found):
                    wanted = is_shaped(n, thing) and is_right(form, thing)
                    right += wanted
                    self.assertIs(basic_holds(form, thing), wanted, thing)
        self.assertGreater(right, 100)

    def test_certificates_of_others(self):
        for n in (2, 3, 4):
            for form in [form for form in some_sums(n, 140 + n, 6) if form[1]]:
                _, m, terms = judge_basic(form)
                for k in (2, 10 ** 80):
                    thing = ("sum", m * k, tuple((name, many * k) for name, many in terms))
                    self.assert_true(basic_holds(form, thing))
                    self.assert_false(basic_holds(times_form(form, 2), thing))
            for form in [form for form in some_forms(n, 150 + n, 12) if judge_basic(form)[0] == "table"]:
                numbers = judge_basic(form)[1][1]
                self.assert_true(basic_holds(form, ("table", (n, tuple(10 ** 90 * number for number in numbers)))))
                self.assert_false(basic_holds(form, ("table", (n, tuple(-number for number in numbers)))))
                self.assert_false(basic_holds(times_form(form, -1), ("table", (n, numbers))))

    def test_the_other_kind_does_not_hold(self):
        for n in range(1, 5):
            sums = [form for form in some_sums(n, 160 + n, 6)]
            tables = [form for form in some_forms(n, 170 + n, 10) if judge_basic(form)[0] == "table"]
            for one, other in product(sums, tables):
                self.assert_false(basic_holds(one, judge_basic(other)))
                self.assert_false(basic_holds(other, judge_basic(one)))

    def test_nearly_certificates(self):
        for thing in [
            ["sum", 1, ((("alone", 0), 1),)], ("sum", 1, [(("alone", 0), 1)]), ("sum", 1, ([("alone", 0), 1],)), ("sum", 1, ((["alone", 0], 1),)),
            ("sum", True, ((("alone", 0), 1),)), ("sum", 1, ((("alone", 0), True),)), ("sum", 1, ((("alone", False), 1),)),
            ("sum", 0, ()), ("sum", 0, ((("alone", 0), 1),)), ("sum", -1, ((("alone", 0), -1),)), ("sum", 2, ((("alone", 0), 1),)),
            ("sum", 1, ((("alone", 0), 2),)), ("sum", 1, ((("alone", 1), 1),)), ("sum", 1, ()), ("sum", 1), ("sum",), ("sum", 1, ((("alone", 0), 1),), ()),
            ("sum", 1, ((("alone", 0), 1), (("alone", 1), 0))), ("sum", 2, ((("alone", 0), 1), (("alone", 0), 1))),
            ("sum", 1, ((("alone", 0), 2), (("alone", 0), -1))), ("sum", 1, (("alone", 0), 1)), ("sum", 1, ((("alone", 0),),)), ("sum", None, ((("alone", 0), 1),)),
            ("sum", 1, ((("alone", 0), 1, 1),)), ("sum", 1, ((("alone", 0), None),)), ("sum", "1", ((("alone", 0), 1),)), ("Sum", 1, ((("alone", 0), 1),)),
            ("sum", 1, ((("four", 0, 1), 1),)), ("sum", 1, {("alone", 0): 1}), ("sum", 1, ((("alone", 0), 1), None)), (1, ((("alone", 0), 1),)),
            ("table", 1, ((("alone", 0), 1),)), ("table", (2, (1, 1, 0))), ("table",), ("table", (2, (0, 1, 1)), ()), ["table", (2, (0, 1, 1))],
            ("sum", [1], ((("alone", 0), 1),)), (["sum"], 1, ((("alone", 0), 1),)), ("sum", 1, "alone"), ("sum", 1, ((("alone", 5), 1),)), ("sum", 1, None),
        ] + ODD:
            self.assert_false(basic_holds(FORM, thing), thing)
        form = (2, (((0,), 1), ((1,), -1)))
        for thing in [
            ["table", (2, (0, 1, 1))], ("table", [2, (0, 1, 1)]), ("table", (2, [0, 1, 1])), ("table", (2, (0, 1, True))), ("table", (2, (False, 1, 1))),
            ("table", (2, (0, 1, 1)), ()), ("table", (2, (0, 1, 1, 1))), ("table", (2, (0, 1))), ("table", (3, (0, 0, 1, 1, 1, 1, 1))), ("table", (1, (-1,))),
            ("table", (2, (0, 0, 1))), ("table", (2, (0, 2, 1))), ("table", (2, (-1, 1, 1))), ("table", (2, (1, 1, 1))), ("table", (2, (1, 2, 1))),
            ("table", 2, (0, 1, 1)), ("table", (0, 1, 1)), ("table",), ("table", None), ("Table", (2, (0, 1, 1))), ("sum", (2, (0, 1, 1))), ("table", {}),
            ("sum", 1, ()), ("table", (2, (0, None, 1))), ("table", ("2", (0, 1, 1))), ((2, (0, 1, 1)),), (["table"], (2, (0, 1, 1))),
        ] + ODD:
            self.assert_false(basic_holds(form, thing), thing)
        self.assert_true(basic_holds(form, ("table", (2, (0, 1, 1)))))
        self.assert_true(basic_holds(form, ("table", (2, (0, 10 ** 99, 10 ** 99)))))

    def test_names_that_do_not_ascend(self):
        form = sum_of(2, {name: 1 for name in basic_names(2)})
        terms = tuple((name, 1) for name in basic_names(2))
        for told in [terms, terms[::-1], terms[1:] + terms[:1], (terms[1], terms[0], terms[2])]:
            self.assertIs(basic_holds(form, ("sum", 1, told)), told == terms)

    def test_certificates_of_forms_of_another_size(self):
        self.assert_false(basic_holds((3, ()), ("sum", 1, ((("alone", 3), 1),))))
        self.assert_false(basic_holds((3, (((0,), -1),)), ("table", (2, (1, 1, 1)))))
        self.assert_false(basic_holds((1, (((0,), 1),)), ("sum", 1, ((("alone", 0), 1), (("shared", 0, 1, ()), 1)))))


def changed_certificates(n, found):
    """A certificate, and the same with one part changed."""
    yield found
    if found[0] == "table":
        numbers = found[1][1]
        for at in range(len(numbers)):
            for more in (-2, -1, 1, 2):
                yield "table", (n, numbers[:at] + (numbers[at] + more,) + numbers[at + 1:])
        yield "table", (n, tuple(2 * number for number in numbers))
        return
    _, m, terms = found
    for more in (-m, -1, 1, m):
        yield "sum", m + more, terms
    yield "sum", 3 * m, tuple((name, 3 * many) for name, many in terms)
    for at, (name, many) in enumerate(terms):
        yield "sum", m, terms[:at] + terms[at + 1:]
        for more in (-many, -1, 1):
            yield "sum", m, terms[:at] + ((name, many + more),) + terms[at + 1:]
        for other in names_by_hand(n):
            yield "sum", m, terms[:at] + ((other, many),) + terms[at + 1:]
