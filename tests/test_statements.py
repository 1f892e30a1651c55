"""Statements, their forms, and those that follow from conditions ([5.3])."""

import random
from itertools import combinations

from tests.checks import ODD, Checked
from tests.hand import form_by_hand, named_by_hand
from tests.test_basics import basic_by_hand
from tests.test_conditions import CIPHER, KEY, no_conditions, some_conditions
from tests.test_forms import some_forms
from tests.test_worlds import EVEN, PARTS, UNEVEN, some_worlds, union
from toldamounts.amounts import sign_of
from toldamounts.conditions import is_following
from toldamounts.errors import BadForms, BadName, BadNumber
from toldamounts.forms import is_form, value_in
from toldamounts.statements import statement_form, told_statements
from toldamounts.worlds import judge_apart, judge_tells

NO_STATEMENTS = ODD + [
    ("tells",), ("tells", (0,)), ("tells", (0,), 0), ("tells", (1, 2), 1), ("tells", (0, 1), 1), ("tells", 0, 1), ("tells", [0], 1),
    ("tells", (0,), 3), ("tells", (0,), -1), ("tells", (3,), 0), ("tells", (-1,), 0), ("tells", (0,), True), ("tells", (True,), 0),
    ("tells", (0,), None), ("tells", (0,), (1,)), ("tells", (0,), "1"), ("tells", (2, 1), 0), ("tells", (1, 1), 0), ("tells", None, 0),
    ("tells", (0,), 1, ()), ["tells", (0,), 1], ("Tells", (0,), 1), ("tells", {}, 1), ("tells", "", 1), ("tells", ((0,),), 1), ("tells", (), 10 ** 99),
    ("tells", 1, (0,)), ("tells", (0,), (1,), ()), ("tells", (False,), 1), ("tells", (), 3), ("tells", ("0",), 1), ("tells", (), False),
    ("apart",), ("apart", 0, 1), ("apart", 0, 1, (), ()), ("apart", 1, 0, ()), ("apart", 0, 0, ()), ("apart", 0, 3, ()), ("apart", -1, 0, ()),
    ("apart", False, 1, ()), ("apart", 0, True, ()), ("apart", 0, 1, (0,)), ("apart", 0, 1, (1,)), ("apart", 0, 1, (3,)), ("apart", 0, 1, [2]),
    ("apart", 0, 1, 2), ("apart", 0, 1, None), ("apart", 0, 2, (True,)), ("apart", 0, 1, (2, 2)), ("apart", 0, 1, (0, 2)), ["apart", 0, 1, ()],
    ("apart", "0", "1", ()), ("apart", None, 1, ()), ("apart", (0,), (1,), ()), ("apart", 0, 1, {}), ("shared", 0, 1, ()), ("alone", 0),
    (["tells"], (0,), 1), (None, 0, 1, ()), (("tells",), (0,), 1), ("apart", 0, 1, "2"), ("apart", 0, 1, []),
]


def statements_by_hand(n):
    """All statements about n things, in no order."""
    found = []
    for i in range(n):
        rest = [thing for thing in range(n) if thing != i]
        found += [("tells", lot, i) for size in range(n) for lot in combinations(rest, size)]
    for i, j in combinations(range(n), 2):
        rest = [thing for thing in range(n) if thing not in (i, j)]
        found += [("apart", i, j, lot) for size in range(n - 1) for lot in combinations(rest, size)]
    return found


def stated_by_hand(n, statement):
    """The form of a statement, lot by lot."""
    if statement[0] == "apart":
        return form_by_hand(n, [(-1, basic_by_hand(n, ("shared",) + statement[1:]))])
    factors = {union(statement[1], (statement[2],)): -1}
    if statement[1]:
        factors[statement[1]] = 1
    return n, tuple(sorted(factors.items()))


class TestStatementForms(Checked):

    def test_told_forms(self):
        self.assert_same(statement_form(2, ("tells", (0,), 1)), (2, (((0,), 1), ((0, 1), -1))))
        self.assert_same(statement_form(n=1, statement=("tells", (), 0)), (1, (((0,), -1),)))
        self.assert_same(statement_form(3, ("apart", 0, 2, ())), CIPHER[0])
        self.assert_same(statement_form(3, ("tells", (1, 2), 0)), CIPHER[1])
        self.assert_same(statement_form(3, ("apart", 0, 1, (2,))), (3, (((0, 1, 2), 1), ((0, 2), -1), ((1, 2), -1), ((2,), 1))))
        self.assert_same(statement_form(5, ("tells", (0, 1, 3, 4), 2)), (5, (((0, 1, 2, 3, 4), -1), ((0, 1, 3, 4), 1))))

    def test_all_statements_about_one_to_five_things(self):
        for n, many in zip(range(1, 6), [1, 5, 18, 56, 160]):
            statements = statements_by_hand(n)
            self.assertEqual(len(set(statements)), many)
            for statement in statements:
                found = statement_form(n, statement)
                self.assert_same(found, stated_by_hand(n, statement))
                self.assert_true(is_form(found))

    def test_their_values_in_worlds(self):
        for world in [EVEN, UNEVEN, PARTS] + some_worlds(71, 8):
            n = world[0]
            for statement in statements_by_hand(n):
                sign = sign_of(value_in(statement_form(n, statement), world))
                self.assertLessEqual(sign, 0)
                if statement[0] == "tells":
                    says = judge_tells(world, statement[1], (statement[2],)) == ("tells",)
                else:
                    says = judge_apart(world, (statement[1],), (statement[2],), statement[3]) == ("apart",)
                self.assertIs(sign == 0, says)

    def test_bad_numbers(self):
        for thing in [None, True, 0, 6, -1, 10 ** 99, "1", (1,), [1], {}, ()]:
            self.assert_thing(BadNumber, thing, statement_form, thing, ("tells", (), 0))
            self.assert_thing(BadNumber, thing, statement_form, n=thing, statement=None)

    def test_bad_names(self):
        for thing in NO_STATEMENTS:
            self.assert_thing(BadName, thing, statement_form, 3, thing)
            self.assert_thing(BadName, thing, statement_form, n=3, statement=thing)
        for n in range(1, 5):
            for statement in set(statements_by_hand(n + 1)) - set(statements_by_hand(n)):
                self.assert_thing(BadName, statement, statement_form, n, statement)


class TestToldStatements(Checked):

    def check(self, conditions):
        wanted = [each for each in statements_by_hand(3) if is_following(stated_by_hand(3, each), conditions)]
        found = told_statements(conditions)
        self.assert_same(found, tuple(sorted(wanted)))
        return found

    def test_told_conditions(self):
        self.assert_same(told_statements((statement_form(3, ("tells", (), 1)), statement_form(3, ("tells", (0,), 2)))), (
            ("apart", 0, 1, ()), ("apart", 0, 1, (2,)), ("apart", 1, 2, ()), ("apart", 1, 2, (0,)), ("tells", (), 1), ("tells", (0,), 1),
            ("tells", (0,), 2), ("tells", (0, 1), 2), ("tells", (0, 2), 1), ("tells", (2,), 1)))
        self.assert_same(told_statements(()), ())
        self.assert_same(told_statements(conditions=((3, ()),) * 6), ())
        self.assert_same(told_statements(CIPHER), (("apart", 0, 2, ()), ("tells", (1, 2), 0)))
        self.assert_same(told_statements((KEY,)), ())
        self.assert_same(told_statements(((3, (((0, 1, 2), -1),)),)), tuple(sorted(statements_by_hand(3))))
        self.assert_same(told_statements((statement_form(3, ("tells", (0,), 1)), statement_form(3, ("tells", (1,), 2)))), (
            ("apart", 0, 2, (1,)), ("apart", 1, 2, (0,)), ("tells", (0,), 1), ("tells", (0,), 2), ("tells", (0, 1), 2), ("tells", (0, 2), 1),
            ("tells", (1,), 2)))

    def test_conditions_that_are_statements(self):
        statements = statements_by_hand(3)
        for statement in statements:
            self.assertIn(statement, self.check((stated_by_hand(3, statement),)))
        choose = random.Random(1)
        for size in (2, 3, 3, 4, 6):
            for _ in range(5):
                some = choose.sample(statements, size)
                found = self.check(tuple(stated_by_hand(3, each) for each in some))
                self.assertLessEqual(set(some), set(found))

    def test_three_lots_that_are_apart_in_two_ways(self):
        # 0 and 1 are apart, and 0 and 2, given 1: then 0 is apart from 2, too.
        some = [("apart", 0, 1, ()), ("apart", 0, 2, (1,))]
        found = self.check(tuple(stated_by_hand(3, each) for each in some))
        self.assert_same(found, (("apart", 0, 1, ()), ("apart", 0, 1, (2,)), ("apart", 0, 2, ()), ("apart", 0, 2, (1,))))

    def test_other_conditions(self):
        for conditions in some_conditions(3, 2, 14):
            self.check(conditions)
        for form in some_forms(3, 3, 6, 20):
            self.check((form,))
        self.check(tuple(form_by_hand(3, [(-1, named_by_hand(3, ("alone", i))), (1, {(i,): 1})]) for i in range(3)))

    def test_bad_conditions(self):
        for thing in no_conditions(3) + [((4, ()),), ((2, ()),), ((5, ()), (3, ())), KEY, [KEY], (KEY,) * 7]:
            self.assert_thing(BadForms, thing, told_statements, thing)
            self.assert_thing(BadForms, thing, told_statements, conditions=thing)
