"""Questions, stores, answers, keys, and how many rows there can be ([11.1], [11.2])."""

import random
import unittest
from itertools import combinations, product

from tests.checks import ODD, Checked
from tests.hand import TABLES, form_by_hand, is_named_list, named_by_hand, total_by_hand, value_by_hand
from tests.test_basics import names_by_hand
from tests.test_copies import with_parts_changed
from tests.test_forms import all_lots
from tests.test_worlds import lots_of_things
from toldamounts.errors import BadNumber, BadQuestion, BadStore, BadWeights
from toldamounts.joins import answer_of, is_question, is_store, judge_rows, keeps_keys, rows_hold

ROUND = (((0, 1), (0, 2), (1, 2)), ())
KEYED = (((0, 1), (1, 2)), (((1,), 2),))
PAIRS = ((0, 0), (0, 1), (1, 0))
SINGLE = (((0,), (1,), (2,)), ())
WHOLE = (((0, 1, 2),), (((), 1), ((0,), 2), ((1, 2), 0)))
ALL = (tuple(all_lots(3)), ())
NO_QUESTIONS = ODD + [
    ((), ()), (((0, 1),), ()), (((0, 1), (0,)), ()), (((0, 1), (2,)), [()]), ([(0, 1), (2,)], ()), (((0, 1), (2,)),), (((0, 1), (2,)), (), ()),
    [((0, 1), (2,)), ()], (((2,), (0, 1)), ()), (((0, 1), (0, 1), (2,)), ()), (((), (0, 1, 2)), ()), (((0, 1, 2, 3),), ()), (((0, 1, 3), (2,)), ()),
    (((1, 0), (2,)), ()), (((0, True), (2,)), ()), (((False, 1), (2,)), ()), (([0, 1], (2,)), ()), (((0, 1, 2),), None), (((0, 1, 2),), ((0,), 1)),
    (((0, 1, 2),), (((0,), 0),)), (((0, 1, 2),), (((0,), 3),)), (((0, 1, 2),), (((3,), 0),)), (((0, 1, 2),), (((0,), True),)),
    (((0, 1, 2),), (((True,), 0),)), (((0, 1, 2),), (([0], 1),)), (((0, 1, 2),), ([(0,), 1],)), (((0, 1, 2),), (((1, 0), 2),)),
    (((0, 1), (2,)), (((0,), 2),)), (((0, 1), (2,)), (((0, 1), 2),)), (((0, 1), (1, 2)), (((0,), 2),)), (((0, 1), (0, 2), (1, 2)), (((0, 1), 2),)),
    (((0, 1, 2),), (((0,), 1), ((0,), 1))), (((0, 1, 2),), (((0,), 2), ((0,), 1))), (((0, 1, 2),), (((0,), 1), ((), 1))),
    (((0, 1, 2),), (((0,), 1, 2),)), (((0, 1, 2),), (((0,),),)), (((0, 1, 2),), (((0,), "1"),)), (((0, 1, 2),), (((0,), 1), None)),
    (((0, 1, 2),), {((0,), 1): 1}), ("012", ()), (((0,), (1,), ("2",)), ()), (((0, 1, 2),), (((0,), -1),)), (((0,), (1,), (2,)), (((0,), 1),)),
]


def all_keys(lots):
    """All keys that a question with these lots may have, ascending."""
    return sorted((lot, i) for i in range(3) for lot in lots_of_things(3) if i not in lot and any(set(lot) | {i} <= set(whole) for whole in lots))


def all_question_lots():
    return [lots for size in range(1, 8) for lots in combinations(all_lots(3), size) if set().union(*lots) == {0, 1, 2}]


def some_questions(seed, many, most=3):
    choose = random.Random(seed)
    found = []
    for _ in range(many):
        lots = choose.choice(all_question_lots())
        keys = all_keys(lots)
        found.append((lots, tuple(sorted(choose.sample(keys, min(len(keys), choose.randint(0, most)))))))
    return found


def some_stores(question, seed, many):
    choose = random.Random(seed)
    for _ in range(many):
        most = choose.choice([1, 2, 3, 6, 99])
        yield tuple(
            tuple(sorted({tuple(choose.randint(0, most) for _ in lot) for _ in range(choose.choice([0, 1, 3, 8, 20] if choose.random() < 0.3 else [3, 8, 40]))}))
            for lot in question[0])


def answer_by_hand(question, store):
    """The answer, each triple of what the columns show being looked at by itself."""
    lots, _ = question
    shown = [sorted({row[lot.index(column)] for lot, table in zip(lots, store) for row in table if column in lot}) for column in range(3)]
    tables = [(lot, set(table)) for lot, table in zip(lots, store)]
    return tuple(triple for triple in product(*shown) if all(tuple(triple[i] for i in lot) in rows for lot, rows in tables))


def is_kept_by_hand(question, store):
    for key, i in question[1]:
        for lot, table in zip(question[0], store):
            if set(key) | {i} <= set(lot):
                for one, other in combinations(table, 2):
                    if all(one[lot.index(c)] == other[lot.index(c)] for c in key) and one[lot.index(i)] != other[lot.index(i)]:
                        return False
    return True


def is_store_by_hand(question, thing):
    if thing.__class__ is not tuple or len(thing) != len(question[0]):
        return False
    for lot, table in zip(question[0], thing):
        if table.__class__ is not tuple or len(table) > 40:
            return False
        if not all(row.__class__ is tuple and len(row) == len(lot) and all(x.__class__ is int and 0 <= x <= 99 for x in row) for row in table):
            return False
        if list(table) != sorted(set(table)):
            return False
    return True


def claimed(question, m, factors):
    return form_by_hand(3, [(k, {lot: 1}) for lot, k in zip(question[0], factors)] + [(-m, {(0, 1, 2): 1})])


def key_by_hand(key):
    """The factors of the statement of a key."""
    return total_by_hand([(1, {key[0]: 1} if key[0] else {}), (-1, {tuple(sorted(key[0] + (key[1],))): 1})])


def is_true_of(question, m, factors, store):
    bound = 1
    for table, k in zip(store, factors):
        bound *= len(table) ** k
    return len(answer_by_hand(question, store)) ** m <= bound


def is_right(question, m, factors, thing):
    """Whether any value is a right certificate of [11.2]."""
    if thing.__class__ is not tuple or not thing or thing[0].__class__ is not str:
        return False
    if thing[0] == "store" and len(thing) == 2 and is_store_by_hand(question, thing[1]):
        return is_kept_by_hand(question, thing[1]) and not is_true_of(question, m, factors, thing[1])
    if thing[0] != "always" or len(thing) != 4:
        return False
    _, k, terms, more = thing
    if k.__class__ is not int or k < 1 or terms.__class__ is not tuple or more.__class__ is not tuple or len(more) != len(question[1]):
        return False
    if not all(part.__class__ is tuple and len(part) == 2 and repr(part[0]) in map(repr, names_by_hand(3)) for part in terms):
        return False
    if not is_named_list(terms, names_by_hand(3)) or not all(part.__class__ is int and part >= 0 for part in more):
        return False
    pairs = [(part, named_by_hand(3, name)) for name, part in terms] + [(part, key_by_hand(key)) for part, key in zip(more, question[1])]
    return total_by_hand(pairs) == {lot: k * factor for lot, factor in claimed(question, m, factors)[1]}


def is_always(question, m, factors):
    """Whether no told lot that keeps the keys breaks the claim's form."""
    tables = [numbers for numbers in TABLES[3].values() if all(sum(k * numbers[lot] for lot, k in key_by_hand(key).items()) == 0 for key in question[1])]
    return all(value_by_hand(claimed(question, m, factors), numbers) >= 0 for numbers in tables)


class TestQuestions(Checked):

    def test_questions(self):
        self.assertEqual(len(all_question_lots()), 109)
        for lots in all_question_lots():
            self.assert_true(is_question((lots, ())))
            self.assert_true(is_question((lots, tuple(all_keys(lots)))))
            for i in range(-1, 4):
                for lot in lots_of_things(3):
                    self.assertIs(is_question((lots, ((lot, i),))), (lot, i) in all_keys(lots))
        for question in [ROUND, KEYED, SINGLE, WHOLE, ALL]:
            self.assert_true(is_question(thing=question))

    def test_lots_that_lack_a_column(self):
        for size in range(1, 5):
            for lots in combinations(all_lots(3), size):
                self.assertIs(is_question((lots, ())), set().union(*lots) == {0, 1, 2})

    def test_no_questions(self):
        for thing in NO_QUESTIONS:
            self.assert_false(is_question(thing), thing)
            self.assert_thing(BadQuestion, thing, is_store, thing, None)
            self.assert_thing(BadQuestion, thing, keeps_keys, thing, None)
            self.assert_thing(BadQuestion, thing, answer_of, store=None, question=thing)
            self.assert_thing(BadQuestion, thing, judge_rows, thing, 0, None)
            self.assert_thing(BadQuestion, thing, rows_hold, thing=None, factors=None, m=None, question=thing)


class TestStores(Checked):

    def test_stores(self):
        for question in some_questions(1, 30) + [ROUND, ALL]:
            self.assert_true(is_store(question, ((),) * len(question[0])))
            for store in some_stores(question, 2, 10):
                self.assert_true(is_store(thing=store, question=question))
        for many in (40, 41):
            table = tuple((at,) for at in range(many))
            self.assertIs(is_store(SINGLE, (table, (), ((99,),))), many == 40)

    def test_no_stores(self):
        good = ((0, 0),)
        for thing in [odd for odd in ODD] + [
                (PAIRS, PAIRS), (PAIRS,) * 4, [PAIRS] * 3, (PAIRS, PAIRS, None), (PAIRS, PAIRS, [(0, 0)]), (good, good, ((0, 100),)), (good, good, ((-1, 0),)),
                (good, good, ((0, True),)), (good, good, ((0,),)), (good, good, ((0, 0, 0),)), (good, good, ((0, 0), (0, 0))), (good, good, ((0, 1), (0, 0))),
                (good, good, ([0, 0],)), (good, good, ((0, "0"),)), (good, good, ((0, None),)), (good, good, (0, 0)), (good, good, {(0, 0): 1}), (good, good, "00"),
                (good, good, tuple((0, at) for at in range(41))), {0: good, 1: good, 2: good}, (good, good, ((0, 0), None)), "abc"]:
            self.assert_false(is_store(ROUND, thing), thing)
            self.assert_thing(BadStore, thing, keeps_keys, ROUND, thing)
            self.assert_thing(BadStore, thing, answer_of, ROUND, thing)
            self.assert_thing(BadStore, thing, answer_of, store=thing, question=ROUND)
            self.assert_false(rows_hold(ROUND, 1, (0, 0, 0), ("store", thing)), thing)

    def test_told_answers(self):
        self.assert_same(answer_of(ROUND, (PAIRS, PAIRS, PAIRS)), ((0, 0, 0), (0, 0, 1), (0, 1, 0), (1, 0, 0)))
        self.assert_same(answer_of(question=KEYED, store=(((3, 4),), ((4, 9), (5, 9)))), ((3, 4, 9),))
        self.assert_same(answer_of(SINGLE, (((5,), (6,)), ((1,),), ((0,), (99,)))), ((5, 1, 0), (5, 1, 99), (6, 1, 0), (6, 1, 99)))
        self.assert_same(answer_of(SINGLE, (((5,),), (), ((0,),))), ())
        self.assert_same(answer_of((((0, 1, 2),), ()), (((4, 4, 4), (5, 4, 4)),)), ((4, 4, 4), (5, 4, 4)))

    def test_answers_worked_out_another_way(self):
        some = 0
        for at, question in enumerate(some_questions(3, 50) + [ROUND, KEYED, WHOLE, ALL]):
            for store in some_stores(question, at, 8):
                wanted = answer_by_hand(question, store)
                some += wanted != ()
                self.assert_same(answer_of(question, store), wanted)
        self.assertGreater(some, 100)

    def test_great_answers(self):
        table = tuple((at,) for at in range(60, 100))
        found = answer_of(SINGLE, (table,) * 3)
        self.assertEqual(len(found), 64000)
        self.assert_same(found[:2] + found[-1:], ((60, 60, 60), (60, 60, 61), (99, 99, 99)))
        self.assert_true(rows_hold(SINGLE, 20, (20, 20, 19), ("store", (table,) * 3)))
        self.assert_false(rows_hold(SINGLE, 20, (20, 20, 20), ("store", (table,) * 3)))

    def test_keys(self):
        self.assert_false(keeps_keys(KEYED, (PAIRS, PAIRS)))
        self.assert_true(keeps_keys(KEYED, (PAIRS, ((0, 0), (1, 0)))))
        self.assert_true(keeps_keys(store=(PAIRS, ()), question=KEYED))
        # With no columns ahead, all rows must be alike at the column.
        constant = (((0, 1), (2,)), (((), 1),))
        self.assert_true(keeps_keys(constant, (((0, 7), (1, 7)), ((4,), (5,)))))
        self.assert_false(keeps_keys(constant, (((0, 7), (1, 8)), ())))
        kinds = {True: 0, False: 0}
        for at, question in enumerate(some_questions(4, 80) + [WHOLE]):
            for store in some_stores(question, 100 + at, 10):
                wanted = is_kept_by_hand(question, store)
                kinds[wanted] += 1
                self.assertIs(keeps_keys(question, store), wanted)
        self.assertGreater(min(kinds.values()), 100)


class TestRows(Checked):

    def check(self, question, m, factors, kind=None):
        found = judge_rows(question, m, factors)
        self.assertTrue(is_right(question, m, factors, found), (question, m, factors, found))
        self.assert_true(rows_hold(question, m, factors, found))
        self.assertEqual(found[0], "always" if is_always(question, m, factors) else "store")
        if kind:
            self.assertEqual(found[0], kind, (question, m, factors))
        return found

    def test_told_claims(self):
        self.check(ROUND, 2, (1, 1, 1), "always")
        self.check(ROUND, 2, (1, 1, 0), "store")
        self.check(ROUND, 20, (10, 10, 10), "always")
        self.check(ROUND, 20, (10, 10, 9), "store")
        self.check(KEYED, 1, (1, 0), "always")
        self.check((KEYED[0], ()), 1, (1, 0), "store")
        self.check(SINGLE, 1, (1, 1, 1), "always")
        self.check((((0, 1, 2),), ()), 7, (7,), "always")
        self.check((((0, 1, 2),), ()), 8, (7,), "store")
        self.check((((0, 1, 2),), (((), 0), ((), 1), ((), 2))), 20, (0,), "always")
        self.check(ALL, 3, (0, 0, 3, 0, 0, 0, 0), "always")
        self.assert_same(judge_rows(question=ROUND, m=2, factors=(1, 1, 1))[0], "always")

    def test_factors_that_are_all_0(self):
        for question in some_questions(5, 40) + [ROUND, KEYED, SINGLE, WHOLE, ALL]:
            found = self.check(question, 3, (0,) * len(question[0]))
            # A claim that there is at most one row is untrue but where keys make each column constant.
            empty = ((),) * len(question[0])
            self.assert_false(rows_hold(question, 3, (0,) * len(question[0]), ("store", empty)))
            if found[0] == "store":
                self.assertGreater(len(answer_of(question, found[1])), 1)

    def test_any_claims(self):
        choose = random.Random(6)
        kinds = {}
        for question in some_questions(7, 260):
            m = choose.choice([1, 2, 3, choose.randint(1, 20)])
            factors = tuple(choose.choice([0, 0, 1, m, choose.randint(0, 20)]) for _ in question[0])
            found = self.check(question, m, factors)
            kinds[found[0], len(question[1])] = kinds.get((found[0], len(question[1])), 0) + 1
        self.assertEqual(len(kinds), 8, kinds)
        self.assertGreater(min(kinds.values()), 5, kinds)

    def test_claims_that_are_just_true(self):
        # For each question, factors that can be lowered no further.
        choose = random.Random(8)
        for question in some_questions(9, 60) + [ROUND, KEYED, SINGLE, WHOLE, ALL]:
            factors = [20] * len(question[0])
            m = choose.randint(1, 20)
            for at in choose.sample(range(len(factors)), len(factors)):
                while factors[at] > 0 and is_always(question, m, factors[:at] + [factors[at] - 1] + factors[at + 1:]):
                    factors[at] -= 1
            self.check(question, m, tuple(factors), "always")
            for at, factor in enumerate(factors):
                if factor > 0:
                    self.check(question, m, tuple(factors[:at] + [factor - 1] + factors[at + 1:]), "store")

    def test_claims_that_always_hold_are_true_of_drawn_stores(self):
        for at, question in enumerate(some_questions(10, 60)):
            for m, k in ((1, 1), (2, 1), (3, 2)):
                factors = (k,) * len(question[0])
                if is_always(question, m, factors):
                    for store in some_stores(question, at, 10):
                        thing = ("store", store)
                        if is_kept_by_hand(question, store):
                            self.assertTrue(is_true_of(question, m, factors, store))
                        self.assert_false(rows_hold(question, m, factors, thing))

    def test_drawn_stores(self):
        choose = random.Random(11)
        kinds = {True: 0, False: 0}
        for at, question in enumerate(some_questions(12, 120, 1)):
            for store in some_stores(question, at, 6):
                m, factors = choose.randint(1, 5), tuple(choose.randint(0, 2) for _ in question[0])
                wanted = is_right(question, m, factors, ("store", store))
                kinds[wanted] += 1
                self.assertIs(rows_hold(question, m, factors, ("store", store)), wanted)
        self.assertGreater(min(kinds.values()), 50)

    def test_certificates_with_one_part_changed(self):
        worths = [None, True, False, 0, -1, 1, 2, "always", "store", (), [], ("alone", 1), (0,), (0, 0)]
        right = {"always": 0, "store": 0}
        for question, m, factors in [
                (ROUND, 2, (1, 1, 1)), (ROUND, 2, (1, 1, 0)), (KEYED, 1, (1, 0)), (KEYED, 2, (1, 1)), (WHOLE, 2, (0,)), (SINGLE, 1, (1, 1, 0)),
                ((((0, 1), (0, 2)), (((0,), 1), ((2,), 0))), 3, (0, 3))]:
            found = judge_rows(question, m, factors)
            for thing in with_parts_changed(found, worths):
                wanted = is_right(question, m, factors, thing)
                right[found[0]] += wanted
                self.assertIs(rows_hold(question, m, factors, thing), wanted, thing)
        self.assertGreater(right["store"], 5)

    def test_multiples_and_more_conditions_than_needed(self):
        found = judge_rows(KEYED, 1, (1, 0))
        five = ("always", 5 * found[1], tuple((name, 5 * k) for name, k in found[2]), tuple(5 * k for k in found[3]))
        self.assert_true(rows_hold(KEYED, 1, (1, 0), five))
        self.assert_true(rows_hold(factors=(1, 0), m=1, question=KEYED, thing=five))
        # What a key says is the opposite of a sum of basic forms; so both together add up to nothing.
        whole = (((0, 1, 2),), (((), 0), ((0,), 1)))
        for k in (0, 1, 10 ** 99):
            terms = ((("alone", 0), k), (("shared", 0, 1, (2,)), k), (("shared", 0, 2, ()), k)) if k else ()
            self.assert_true(rows_hold(whole, 4, (4,), ("always", 3, terms, (k, 0))))
            self.assertIs(rows_hold(whole, 4, (4,), ("always", 3, terms, (0, k))), k == 0)

    def test_bad_numbers_and_weights(self):
        for question in (ROUND, KEYED):
            many = len(question[0])
            good = (1,) * many
            for m in [odd for odd in ODD if odd not in (1, 5) or odd is True] + [0, 21, -1, True, 10 ** 99, "1", (1,)]:
                self.assert_thing(BadNumber, m, judge_rows, question, m, good)
                self.assert_thing(BadNumber, m, judge_rows, question, m, None)
                self.assert_thing(BadNumber, m, rows_hold, thing=None, factors=good, m=m, question=question)
            for factors in ODD + [good[1:], good + (0,), list(good), (True,) + good[1:], (-1,) + good[1:], (21,) + good[1:], ("1",) + good[1:],
                                  (None,) + good[1:], {0: 1}, (10 ** 99,) + good[1:], (good,)]:
                if not (factors.__class__ is tuple and len(factors) == many and all(k.__class__ is int and 0 <= k <= 20 for k in factors)):
                    self.assert_thing(BadWeights, factors, judge_rows, question, 1, factors)
                    self.assert_thing(BadWeights, factors, rows_hold, question=question, m=20, factors=factors, thing=("store", ()))
            for m in (1, 20):
                self.check(question, m, (20,) * many)
                self.check(question, m, (0,) * many)

    def test_any_values(self):
        for thing in ODD + [
                ("always",), ("always", 1, ()), ("always", 1, (), (), ()), ["always", 1, (), ()], ("always", 0, (), ()), ("always", True, (), ()),
                ("always", 1, [], ()), ("always", 1, (), []), ("sum", 1, (), ()), ("store",), ("store", ()), ("store", None), ("store", (PAIRS,) * 3, 1),
                ["store", (PAIRS,) * 3], ("stores", (PAIRS,) * 3), ("store", [PAIRS] * 3), ("broken", ((("hit", (0,)), 1),)), ("always", 1, None, None)]:
            self.assert_false(rows_hold(ROUND, 2, (1, 1, 0), thing), thing)
            self.assert_false(rows_hold(ROUND, 2, (1, 1, 1), thing), thing)
        self.assert_true(rows_hold((((0, 1), (1, 2)), ()), 1, (1, 0), ("store", (((0, 0),), ((0, 0), (0, 1))))))


if __name__ == "__main__":
    unittest.main()
