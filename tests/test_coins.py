"""Three things: worlds of coins, kept tables, and worlds that break forms ([6.1], [6.2], [6.3])."""

import random
from itertools import product

from tests.checks import ODD, Checked
from tests.hand import (
    TABLES, form_by_hand, is_named_list, named_by_hand, some_named_sums, told_names_by_hand, told_sum_by_hand, value_by_hand,
)
from tests.test_basics import NO_NAMES, basic_by_hand, is_kept_by_hand, names_by_hand
from tests.test_forms import NO_FORMS, NO_TABLES, all_lots, some_forms
from tests.test_judge_basic import some_sums
from tests.test_toldlots import NO_NAMES as NO_TOLD_NAMES
from toldamounts.amounts import sign_of
from toldamounts.basics import is_kept, judge_basic
from toldamounts.coins import breaking_world, coin_world, judge_table, table_holds, told_sum_table
from toldamounts.errors import BadForm, BadNumber, BadTable
from toldamounts.forms import is_table, value_in
from toldamounts.worlds import is_world, lot_amount

NAMES = sorted(told_names_by_hand(3))
HIT = (("hit", (0,)), 1)
EVEN_TABLE = (3, (1, 2, 2, 2, 1, 2, 1))
# Values that are no told sums of three and of four things.
NO_TOLD_SUMS = [odd for odd in ODD if odd != ()] + [
    HIT, [HIT], (list(HIT),), (HIT, HIT), (HIT, None), (HIT, ()), ((("hit", (0,)),),), ((("hit", (0,)), 1, 1),), ((("hit", (0,)), 0),),
    ((("hit", (0,)), -1),), ((("hit", (0,)), True),), ((("hit", (0,)), None),), ((("hit", (0,)), "1"),), ((("hit", (0,)), (1,)),),
    ((("hit", (1,)), 1), HIT), (HIT, (("hit", (0,)), 2)), (HIT, (("hit", (0, 1)), 0)), {("hit", (0,)): 1}, ((1, ("hit", (0,))),), "told",
] + [((name, 1),) for name in NO_TOLD_NAMES]
NO_TABLES_OF_THREE = NO_TABLES + [(1, (0,)), (2, (1, 2, 1)), (4, (0,) * 15), (5, (0,) * 31)]
NO_FORMS_OF_THREE = [thing for thing in NO_FORMS if thing != (3, ())] + [(1, ()), (2, (((0,), 1),)), (4, ()), (4, (((0, 3), -1),)), (5, ())]


def told_sums(most):
    """All told sums of three things that need as many coins, at most."""
    found = [()]
    for name in NAMES:
        cost = 2 if name == ("three",) else 1
        found += [told + ((name, k),) for told in found for k in range(1, 6) if coins_of(told) + k * cost <= most]
    return found


def coins_of(told):
    return sum(k * (2 if name == ("three",) else 1) for name, k in told)


def rows_by_hand(told):
    """The outcomes of the coin world: what each thing shows, for all choices of the coins."""
    outcomes = [(0, 0, 0)]
    for name, k in told:
        for _ in range(k):
            if name == ("three",):
                shown, sizes = [(0, 0, 0), (0, 1, 1), (1, 0, 1), (1, 1, 0)], (2, 2, 2)
            else:
                shown = [(0, 0, 0), tuple(int(thing in name[1]) for thing in range(3))]
                sizes = tuple(1 + one for one in shown[1])
            outcomes = [tuple(a * size + b for a, size, b in zip(one, sizes, other)) for one in outcomes for other in shown]
    return sorted(outcomes)


def is_right(table, thing):
    """Whether a certificate is right: basic forms and told sums are added up lot by lot."""
    numbers = dict(zip(all_lots(3), table[1]))
    if thing[0] == "below":
        return thing[1] in names_by_hand(3) and sum(factor * numbers[lot] for lot, factor in basic_by_hand(3, thing[1]).items()) < 0
    _, m, told = thing
    if m < 1 or not is_named_list(told, NAMES):
        return False
    return told_sum_by_hand(3, told) == {lot: m * number for lot, number in numbers.items()}


def kept_tables(seed, many, most=9):
    """Tables of told sums, some of them divided by 2 where this comes out even."""
    choose = random.Random(seed)
    found = []
    for _ in range(many):
        told = tuple((name, choose.randint(1, most)) for name in NAMES if choose.random() < 0.5)
        numbers = told_sum_by_hand(3, told)
        half = all(number % 2 == 0 for number in numbers.values())
        found.append((3, tuple(numbers[lot] // 2 if half else numbers[lot] for lot in all_lots(3))))
    return found


def changed_tables(table):
    numbers = table[1]
    for at in range(7):
        for more in (-2, -1, 1, 2):
            yield 3, numbers[:at] + (numbers[at] + more,) + numbers[at + 1:]


class TestCoinWorld(Checked):

    def test_told_worlds(self):
        self.assert_same(coin_world(((("hit", (0, 2)), 1),)), (3, (((0, 0, 0), 1), ((1, 0, 1), 1))))
        self.assert_same(coin_world(()), (3, (((0, 0, 0), 1),)))
        self.assert_same(coin_world(told=((("three",), 1),)), (3, (((0, 0, 0), 1), ((0, 1, 1), 1), ((1, 0, 1), 1), ((1, 1, 0), 1))))
        self.assert_same(coin_world(((("hit", (1,)), 2),)), (3, (((0, 0, 0), 1), ((0, 1, 0), 1), ((0, 2, 0), 1), ((0, 3, 0), 1))))
        self.assert_same(coin_world(((("hit", (0,)), 1), (("hit", (0, 1)), 1))),
                         (3, (((0, 0, 0), 1), ((1, 1, 0), 1), ((2, 0, 0), 1), ((3, 1, 0), 1))))

    def test_all_told_sums_row_by_row(self):
        sizes = {}
        for told in told_sums(5):
            found = coin_world(told)
            self.assert_same(found, (3, tuple((outcome, 1) for outcome in rows_by_hand(told))))
            self.assertEqual(len(found[1]), 2 ** coins_of(told))
            sizes[coins_of(told)] = sizes.get(coins_of(told), 0) + 1
        self.assertEqual(sizes[0], 1)
        self.assertEqual(sizes[1], 7)
        self.assertEqual(sizes[2], 29)
        self.assertEqual(sorted(sizes), [0, 1, 2, 3, 4, 5])

    def test_amounts_of_all_lots(self):
        choose = random.Random(1)
        for told in told_sums(2) + choose.sample(told_sums(5), 40) + [((("three",), 2),), ((("hit", (0, 1, 2)), 5),)]:
            world = coin_world(told)
            self.assert_true(is_world(world))
            for lot, number in told_sum_by_hand(3, told).items():
                self.assert_same(lot_amount(world, lot), (1, ((2, number),) if number else ()))

    def test_bad_tables(self):
        for thing in NO_TOLD_SUMS + [((("three", 0), 1),), ((("corner",), 1),), ((("wide", 0), 1),), ((("hit", (3,)), 1),)]:
            self.assert_thing(BadTable, thing, coin_world, thing)
            self.assert_thing(BadTable, thing, coin_world, told=thing)
        for thing in [
            ((("hit", (0,)), 6),), ((("three",), 3),), ((("hit", (0,)), 10 ** 99),), ((("three",), 10 ** 99),), ((("hit", (2,)), 2), (("three",), 2)),
            tuple((name, 1) for name in NAMES[:6]), ((("hit", (0,)), 4), (("hit", (1,)), 2)), ((("hit", (0,)), 4), (("three",), 1)),
        ]:
            self.assert_thing(BadTable, thing, coin_world, thing)
        self.assertEqual(len(coin_world(((("hit", (0,)), 1), (("three",), 2)))[1]), 32)
        self.assertEqual(len(coin_world(tuple((name, 1) for name in NAMES[:5]))[1]), 32)


class TestToldSumTables(Checked):

    def test_told_tables(self):
        self.assert_same(told_sum_table(3, ((("hit", (0,)), 2), (("three",), 1))), (3, (3, 4, 4, 4, 1, 2, 1)))
        self.assert_same(told_sum_table(n=3, told=()), (3, (0,) * 7))
        self.assert_same(told_sum_table(4, ()), (4, (0,) * 15))
        self.assert_same(told_sum_table(4, ((("hit", (3,)), 10 ** 99),)), (4, tuple(10 ** 99 * int(3 in lot) for lot in all_lots(4))))

    def test_tables_of_three_and_of_four_things(self):
        choose = random.Random(2)
        for n in (3, 4):
            names = sorted(told_names_by_hand(n))
            some = [((name, 1),) for name in names] + [tuple((name, 3) for name in names)]
            for _ in range(30):
                some.append(tuple((name, choose.choice([1, 2, 100, 10 ** 60])) for name in names if choose.random() < 0.3))
            for told in some:
                numbers = told_sum_by_hand(n, told)
                found = told_sum_table(n, told)
                self.assert_same(found, (n, tuple(numbers[lot] for lot in all_lots(n))))
                self.assert_true(is_table(found))
                self.assert_true(is_kept(found))

    def test_bad_numbers_and_tables(self):
        for thing in ODD + [2, 6, (3,), [4], "3"]:
            self.assert_thing(BadNumber, thing, told_sum_table, thing, ())
            self.assert_thing(BadNumber, thing, told_sum_table, n=thing, told=None)
        for n in (3, 4):
            for thing in NO_TOLD_SUMS:
                self.assert_thing(BadTable, thing, told_sum_table, n, thing)
                self.assert_thing(BadTable, thing, told_sum_table, n=n, told=thing)
        for name in sorted(set(told_names_by_hand(4)) - set(NAMES)):
            self.assert_thing(BadTable, ((name, 1),), told_sum_table, 3, ((name, 1),))
        self.assert_thing(BadTable, ((("three",), 1),), told_sum_table, 4, ((("three",), 1),))
        self.assert_thing(BadTable, ((("three", 0), 1), HIT), told_sum_table, 4, ((("three", 0), 1), HIT))


class JudgedTables(Checked):

    def check(self, table, kind=None):
        found = judge_table(table)
        self.assertIs(found.__class__, tuple)
        self.assertEqual(len(found), {"parts": 3, "below": 2}[found[0]])
        self.assertTrue(is_right(table, found), (table, found))
        self.assertEqual(found[0], "parts" if is_kept_by_hand(3, table[1]) else "below")
        self.assert_true(table_holds(table, found))
        if kind:
            self.assertEqual(found[0], kind, table)
        return found


class TestJudgeTable(JudgedTables):

    def test_told_tables(self):
        self.check((3, (1, 1, 1, 1, 1, 1, 0)), "parts")
        self.check((3, (0, 0, 1, 1, 0, 1, 1)), "parts")
        self.check((3, (1, 1, 1, 1, 0, 0, 1)), "below")
        self.check(EVEN_TABLE, "parts")
        self.assert_same(judge_table(table=EVEN_TABLE)[0], "parts")
        self.assert_same(self.check((3, (0,) * 7), "parts")[2], ())
        self.check((3, (-1,) * 7), "below")
        self.check((3, (1,) * 7), "parts")
        self.check((3, (2, 3, 3, 3, 2, 3, 2)), "parts")
        self.check((3, (2, 3, 4, 3, 2, 3, 2)), "parts")
        self.check((3, (2, 3, 5, 3, 2, 3, 2)), "below")

    def test_kept_tables_and_such_with_one_number_changed(self):
        kinds = {"parts": 0, "below": 0}
        for table in kept_tables(3, 40):
            self.check(table, "parts")
            for other in changed_tables(table):
                kinds[self.check(other)[0]] += 1
        self.assertGreater(min(kinds.values()), 100)

    def test_any_tables(self):
        choose = random.Random(4)
        kinds = {"parts": 0, "below": 0}
        for _ in range(400):
            low = choose.randint(2, 30)
            numbers = tuple(choose.choice([1, 1, 2, 3, -1]) + low * min(len(lot) + 1, 3) for lot in all_lots(3))
            kinds[self.check((3, numbers))[0]] += 1
        for _ in range(60):
            self.check((3, tuple(choose.randint(-100, 100) for _ in range(7))))
        self.assertGreater(min(kinds.values()), 50)

    def test_small_tables_of_few_numbers(self):
        for singles, pairs, whole in product(range(4), range(6), range(7)):
            self.check((3, tuple((singles, pairs, whole)[len(lot) - 1] for lot in all_lots(3))))

    def test_tables_that_break_one_basic_form_alone(self):
        for name in names_by_hand(3):
            # The other basic forms are far above 0, this one is 1 below it.
            numbers = {lot: 20 * min(len(lot), 2) + 10 * len(lot) - (5 if len(lot) == 3 else 0) for lot in all_lots(3)}
            worth = sum(factor * numbers[lot] for lot, factor in basic_by_hand(3, name).items())
            lot = min(basic_by_hand(3, name), key=lambda each: (len(each) != 2, each))
            numbers[lot] -= basic_by_hand(3, name)[lot] * (worth + 1)
            self.check((3, tuple(numbers[each] for each in all_lots(3))), "below")

    def test_integers_are_short(self):
        for table in kept_tables(5, 40, 14):
            _, m, told = self.check(table, "parts")
            self.assertTrue(all(k < 10 ** 1000 for k in [m] + [k for _, k in told]))

    def test_bad_tables(self):
        for thing in NO_TABLES_OF_THREE:
            self.assert_thing(BadTable, thing, judge_table, thing)
            self.assert_thing(BadTable, thing, judge_table, table=thing)
            self.assert_thing(BadTable, thing, table_holds, thing, ("parts", 1, ()))
            self.assert_thing(BadTable, thing, table_holds, table=thing, thing=None)


class TestTableHolds(JudgedTables):

    def test_told_certificates(self):
        self.assert_true(table_holds((3, (0, 0, 1, 1, 0, 1, 1)), ("parts", 1, ((("hit", (2,)), 1),))))
        self.assert_false(table_holds((3, (1, 1, 1, 1, 0, 0, 1)), ("below", ("alone", 0))))
        self.assert_true(table_holds(table=(3, (1, 1, 1, 1, 0, 0, 1)), thing=("below", ("shared", 0, 1, (2,)))))
        self.assert_true(table_holds(EVEN_TABLE, ("parts", 10 ** 99, ((("three",), 10 ** 99),))))
        self.assert_false(table_holds(EVEN_TABLE, ("parts", 10 ** 99, ((("three",), 10 ** 99 - 1),))))
        self.assert_true(table_holds((3, (0,) * 7), ("parts", 5, ())))
        self.assert_false(table_holds((3, (0,) * 7), ("parts", 0, ())))
        self.assert_false(table_holds(EVEN_TABLE, ("parts", 1, ())))

    def test_all_basic_names(self):
        for table in [EVEN_TABLE, (3, (0,) * 7), (3, (-1,) * 7)] + [other for each in kept_tables(6, 8) for other in changed_tables(each)]:
            for name in names_by_hand(3):
                self.assertIs(table_holds(table, ("below", name)), is_right(table, ("below", name)))

    def test_certificates_with_one_part_changed(self):
        right = 0
        for table in kept_tables(7, 25):
            _, m, told = judge_table(table)
            things = [("parts", m + more, told) for more in (-m, -1, 0, 1, m)]
            things.append(("parts", 9 * m, tuple((name, 9 * k) for name, k in told)))
            for at, (name, k) in enumerate(told):
                others = [told[:at] + told[at + 1:], told[:at] + (told[at],) * 2 + told[at + 1:]]
                others += [told[:at] + ((name, k + more),) + told[at + 1:] for more in (-k, -1, 1, 10 ** 40)]
                others += [told[:at] + ((other, k),) + told[at + 1:] for other in NAMES]
                things += [("parts", m, other) for other in others]
            for thing in things:
                wanted = is_right(table, thing)
                right += wanted
                self.assertIs(table_holds(table, thing), wanted, thing)
        self.assertGreater(right, 60)

    def test_other_sums_for_one_table(self):
        # Coins that hit two things each, or one that hits all of them and the three of which any two tell the third.
        one = tuple((("hit", lot), 7) for lot in all_lots(3) if len(lot) == 2)
        other = ((("hit", (0, 1, 2)), 7), (("three",), 7))
        self.assertEqual(told_sum_by_hand(3, one), told_sum_by_hand(3, other))
        table = (3, tuple(told_sum_by_hand(3, one)[lot] for lot in all_lots(3)))
        self.check(table, "parts")
        for told in (one, other):
            self.assert_true(table_holds(table, ("parts", 1, told)))
            for again in changed_tables(table):
                self.assert_false(table_holds(again, ("parts", 1, told)))
        self.assert_false(table_holds(table, ("parts", 1, tuple(sorted(one + other)))))
        self.assert_true(table_holds(table, ("parts", 2, tuple(sorted(one + other)))))

    def test_integers_of_any_size(self):
        choose = random.Random(8)
        for _ in range(40):
            told = tuple((name, choose.choice([1, 10 ** 60, 10 ** 90])) for name in NAMES if choose.random() < 0.5)
            numbers = told_sum_by_hand(3, told)
            table = (3, tuple(numbers[lot] for lot in all_lots(3)))
            self.assert_true(table_holds(table, ("parts", 1, told)))
            self.assert_true(table_holds(table, ("parts", 10 ** 80, tuple((name, 10 ** 80 * k) for name, k in told))))
            self.assertIs(table_holds(table, ("parts", 2, told)), told == ())
            self.assertIs(table_holds(table, ("parts", 1, told[::-1])), len(told) < 2)

    def test_nearly_certificates(self):
        three = (("three",), 1)
        self.assert_true(table_holds(EVEN_TABLE, ("parts", 1, (three,))))
        for thing in [
            ["parts", 1, (three,)], ("parts", 1, [three]), ("parts", 1, (list(three),)), ("parts", 1, ((["three"], 1),)), ("parts", True, (three,)),
            ("parts", 1, ((("three",), True),)), ("parts", 1, three), ("parts", 1), ("parts", 1, (three,), ()), ("parts",), ("parts", None, (three,)),
            ("parts", "1", (three,)), ("parts", -1, ((("three",), -1),)), ("parts", 0, (three,)), ("parts", 2, (three,)), ("parts", 2, (three, three)),
            ("parts", 1, (three, None)), ("parts", 1, {("three",): 1}), ("parts", 1, None), ("Parts", 1, (three,)), ("below", 1, (three,)),
            ("sum", 1, (three,)), ("parts", 1, ((("three", 0), 1),)), ("parts", 1, ((("three",), 1, 1),)), ("parts", (three,), 1), (1, (three,)),
            ("parts", 1, ((("hit", (0,)), 0), three)), ("parts", [1], (three,)), (["parts"], 1, (three,)), ("parts", 1, "three"),
            ("below", ("alone", 0)), ("below", ("shared", 0, 1, ())),
        ] + ODD:
            self.assert_false(table_holds(EVEN_TABLE, thing), thing)
        below = (3, (-1,) * 7)
        self.assert_true(table_holds(below, ("below", ("shared", 0, 1, ()))))
        for thing in NO_NAMES:
            self.assert_false(table_holds(below, ("below", thing)), thing)
        for thing in [["below", ("shared", 0, 1, ())], ("below", ["shared", 0, 1, ()]), ("below", ("shared", 0, 1, ()), ()), ("below",), (("shared", 0, 1, ()),),
                      ("Below", ("shared", 0, 1, ())), ("below", "shared"), ("broken", ("shared", 0, 1, ())), ("parts", ("shared", 0, 1, ())),
                      ("parts", 1, ()), ("below", ("shared", 0, 1, (2,))), ("below", ("alone", 0)), ("below", ("hit", (0,)))] + ODD:
            self.assert_false(table_holds(below, thing), thing)


class TestBreakingWorld(Checked):

    def test_told_forms(self):
        self.assertIs(breaking_world((3, (((0,), 1),))), None)
        self.assertIs(breaking_world(form=(3, ())), None)
        found = breaking_world((3, (((0,), -1),)))
        self.assert_true(is_world(found))
        self.assertEqual(sign_of(value_in((3, (((0,), -1),)), found)), -1)

    def test_below_nought_exactly_if_so_at_one_of_the_eight_tables(self):
        kinds = {True: 0, False: 0}
        forms = some_forms(3, 9, 60, 4) + some_sums(3, 10, 30) + some_named_sums(3, 11, 20)
        for form in some_sums(3, 12, 12):
            forms += [form_by_hand(3, [(1, dict(form[1])), (more, {lot: 1})]) for lot in all_lots(3) for more in (-1, 1)]
        for form in forms:
            if all(abs(factor) <= 20 for _, factor in form[1]):
                broken = any(value_by_hand(form, numbers) < 0 for numbers in TABLES[3].values())
                kinds[broken] += 1
                found = breaking_world(form)
                if broken:
                    self.assert_true(is_world(found))
                    self.assertEqual(found[0], 3)
                    self.assertEqual(sign_of(value_in(form, found)), -1)
                else:
                    self.assertIs(found, None)
                    self.assertEqual(judge_basic(form)[0], "sum")
        self.assertGreater(min(kinds.values()), 50)

    def test_forms_that_only_one_told_lot_breaks(self):
        for name in NAMES:
            zero = [each for each in names_by_hand(3) if value_by_hand(form_by_hand(3, [(1, named_by_hand(3, each))]), TABLES[3][name]) == 0]
            form = form_by_hand(3, [(6, named_by_hand(3, each)) for each in zero] + [(-1, {(0, 1, 2): 1})])
            self.assertEqual([told for told in NAMES if value_by_hand(form, TABLES[3][told]) < 0], [name])
            self.assertEqual(sign_of(value_in(form, breaking_world(form))), -1)

    def test_bad_forms(self):
        for thing in NO_FORMS_OF_THREE:
            self.assert_thing(BadForm, thing, breaking_world, thing)
            self.assert_thing(BadForm, thing, breaking_world, form=thing)
