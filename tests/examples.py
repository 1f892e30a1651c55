"""The document's own examples, word for word, by the module that they stand under."""

AMOUNTS = """
>>> from toldamounts.amounts import amount_of, is_amount, is_below, minus, plus, sign_of, spread, steps_of, times
>>> [amount_of(12), spread((1, 1)), spread((2, 2)), spread((5,)), spread((1, 3)), plus(amount_of(2), spread((1, 3))), minus(amount_of(6), amount_of(3)), times(spread((1, 3)), 2, 1)]
[(1, ((2, 2), (3, 1))), (1, ((2, 1),)), (1, ((2, 1),)), (1, ()), (4, ((2, 8), (3, -3))), (4, ((2, 12), (3, -3))), (1, ((2, 1),)), (2, ((2, 8), (3, -3)))]
>>> [sign_of((1, ((2, 8), (3, -5)))), is_below(amount_of(243), amount_of(256)), steps_of(amount_of(3), 10), steps_of(spread((1, 3)), 4), is_amount((2, ((2, 2),)))]
[1, True, 15, 3, False]
"""

WORLDS = """
>>> from toldamounts.worlds import apart_holds, given_amount, judge_apart, judge_tells, lot_amount, shared_amount, tells_holds, view_of
>>> EVEN = (3, (((0, 0, 0), 1), ((0, 1, 1), 1), ((1, 0, 1), 1), ((1, 1, 0), 1)))
>>> [view_of(EVEN, (2,)), lot_amount(EVEN, (0, 1, 2)), given_amount(EVEN, (2,), (0, 1)), shared_amount(EVEN, (0,), (1,), (2,)), judge_tells(EVEN, (0, 1), (2,)), judge_tells(EVEN, (0,), (2,))[0], judge_apart(EVEN, (0,), (1,), ())]
[(((0,), 2), ((1,), 2)), (1, ((2, 2),)), (1, ()), (1, ((2, 1),)), ('tells',), 'unlike', ('apart',)]
>>> [apart_holds(EVEN, (0,), (1,), (2,), ('unequal', (0,), (1,), (0,))), tells_holds(EVEN, (0,), (1,), ('unlike', 1, 0))]
[True, False]
"""

ALL = {"amounts": AMOUNTS, "worlds": WORLDS}
