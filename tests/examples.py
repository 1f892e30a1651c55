"""The document's own examples, word for word, by the module that they stand under."""

AMOUNTS = """
>>> from toldamounts.amounts import amount_of, is_amount, is_below, minus, plus, sign_of, spread, steps_of, times
>>> [amount_of(12), spread((1, 1)), spread((2, 2)), spread((5,)), spread((1, 3)), plus(amount_of(2), spread((1, 3))), minus(amount_of(6), amount_of(3)), times(spread((1, 3)), 2, 1)]
[(1, ((2, 2), (3, 1))), (1, ((2, 1),)), (1, ((2, 1),)), (1, ()), (4, ((2, 8), (3, -3))), (4, ((2, 12), (3, -3))), (1, ((2, 1),)), (2, ((2, 8), (3, -3)))]
>>> [sign_of((1, ((2, 8), (3, -5)))), is_below(amount_of(243), amount_of(256)), steps_of(amount_of(3), 10), steps_of(spread((1, 3)), 4), is_amount((2, ((2, 2),)))]
[1, True, 15, 3, False]
"""

WORLDS = """
>>> from toldamounts.worlds import apart_holds, given_amount, judge_apart, judge_tells, lot_amount, shared_amount, tells_holds, view_of
>>> EVEN = (3, (((0, 0, 0), 1), ((0, 1, 1), 1), ((1, 0, 1), 1), ((1, 1, 0), 1)))
>>> [view_of(EVEN, (2,)), lot_amount(EVEN, (0, 1, 2)), given_amount(EVEN, (2,), (0, 1)), shared_amount(EVEN, (0,), (1,), (2,)), judge_tells(EVEN, (0, 1), (2,)), judge_tells(EVEN, (0,), (2,))[0], judge_apart(EVEN, (0,), (1,), ())]
[(((0,), 2), ((1,), 2)), (1, ((2, 2),)), (1, ()), (1, ((2, 1),)), ('tells',), 'unlike', ('apart',)]
>>> [apart_holds(EVEN, (0,), (1,), (2,), ('unequal', (0,), (1,), (0,))), tells_holds(EVEN, (0,), (1,), ('unlike', 1, 0))]
[True, False]
"""

MAKINGWORLDS = r"""
>>> from toldamounts.makingworlds import beside, grouped, led_world
>>> COIN = (1, (((0,), 1), ((1,), 1)))
>>> [beside(COIN, COIN), grouped((2, (((0, 5), 1), ((7, 5), 2))), ((0, 1), (1,))), led_world((2, (((0, 5), 1), ((7, 5), 2))), (1, 0))]
[(1, (((0,), 1), ((1,), 1), ((2,), 1), ((3,), 1))), (2, (((0, 0), 1), ((1, 0), 2))), (2, (((5, 0), 1), ((5, 7), 2)))]
"""

FORMS = r"""
>>> from toldamounts.forms import given_form, lots_of, plus_forms, shared_form, value_at, value_in
>>> EVEN = (3, (((0, 0, 0), 1), ((0, 1, 1), 1), ((1, 0, 1), 1), ((1, 1, 0), 1)))
>>> [lots_of(2), shared_form(2, (0,), (1,), ()), given_form(3, (2,), (0, 1)), plus_forms((2, (((0,), 1),)), (2, (((0,), -1), ((1,), 2)))), value_at((2, (((0,), 1), ((0, 1), -3))), (2, (1, 2, 1))), value_in(shared_form(3, (0,), (1,), (2,)), EVEN)]
[((0,), (0, 1), (1,)), (2, (((0,), 1), ((0, 1), -1), ((1,), 1))), (3, (((0, 1), -1), ((0, 1, 2), 1))), (2, (((1,), 2),)), -5, (1, ((2, 1),))]
"""

BASICS = r"""
>>> from toldamounts.basics import basic_form, basic_holds, basic_names, is_kept, judge_basic
>>> [basic_names(2), basic_form(3, ('shared', 0, 2, (1,))), is_kept((2, (1, 1, 0))), is_kept((2, (1, 3, 1))), judge_basic((2, (((0, 1), 1), ((1,), -1))))[0], basic_holds((2, (((0,), 1), ((1,), -1))), ('table', (2, (0, 1, 1))))]
[(('alone', 0), ('alone', 1), ('shared', 0, 1, ())), (3, (((0, 1), 1), ((0, 1, 2), -1), ((1,), -1), ((1, 2), 1))), True, False, 'sum', True]
"""

FORMTEXTS = r"""
>>> from toldamounts.formtexts import read_form, text_of
>>> [text_of((2, (((0,), 1), ((0, 1), -3)))), read_form('form 1'), read_form('form 2\n-1 1')]
['form 2\n1 0\n-3 0 1', (1, ()), (2, (((1,), -1),))]
"""

SPACES = r"""
>>> from toldamounts.spaces import beside_systems, is_system, rank_of, ranks_of
>>> LINES = (2, 2, (((1, 0),), ((0, 1),), ((1, 1),), ()))
>>> [rank_of(LINES, (0, 1)), rank_of(LINES, (0, 1, 2)), rank_of(LINES, (3,)), beside_systems((3, 1, (((1,),), (), (), ())), (3, 1, (((2,),), (), (), ((1,),))))]
[2, 2, 0, (3, 2, (((1, 0), (0, 2)), (), (), ((0, 1),)))]
"""

TOLDLOTS = r"""
>>> from toldamounts.toldlots import told_names, told_system, told_table
>>> [len(told_names(4)), told_names(3)[-1], told_table(4, ('corner',)), told_system(5, ('hit', (1, 2))), told_table(3, ('three',))]
[35, ('three',), (4, (1, 2, 3, 3, 3, 2, 3, 2, 1, 2, 3, 2, 1, 2, 1)), (5, 1, ((), ((1,),), ((1,),), ())), (3, (1, 2, 2, 2, 1, 2, 1))]
"""

SPACEFORMS = r"""
>>> from toldamounts.spaceforms import breaking_system, four_form, judge_spaces, spaces_hold
>>> [four_form(0, 1) == (4, (((0,), -1), ((0, 1), 1), ((0, 1, 2), -1), ((0, 1, 3), -1), ((0, 2), 1), ((0, 3), 1), ((1,), -1), ((1, 2), 1), ((1, 3), 1), ((2, 3), -1))), judge_spaces(four_form(0, 1))[0], spaces_hold((4, (((0,), 1), ((2,), -1))), ('broken', ('hit', (1, 2))))]
[True, 'sum', True]
"""

WRITTEN_OUT = r"""
>>> from toldamounts.conditions import is_following, judge_under, least_positions, needless_positions, under_holds
>>> KEY = (3, (((0,), -1), ((1,), 1)))
>>> CIPHER = ((3, (((0,), -1), ((0, 2), 1), ((2,), -1))), (3, (((0, 1, 2), -1), ((1, 2), 1))))
>>> [is_following(KEY, CIPHER), judge_under((3, (((0,), 1),)), ())[0], under_holds((3, (((0,), 1),)), (), ('sum', 1, ((('alone', 0), 1), (('shared', 0, 1, (2,)), 1), (('shared', 0, 2, ()), 1)), ())), under_holds(KEY, (), ('broken', ((('hit', (0,)), 2),))), least_positions(KEY, CIPHER), needless_positions(CIPHER)]
[True, 'sum', True, True, (0, 1), ()]
"""

CONDITIONS = r"""
>>> from toldamounts.conditions import is_following, judge_under, least_positions, needless_positions, under_holds
>>> from toldamounts.statements import statement_form, told_statements
>>> KEY = (3, (((0,), -1), ((1,), 1)))
>>> CIPHER = (statement_form(3, ('apart', 0, 2, ())), statement_form(3, ('tells', (1, 2), 0)))
>>> [statement_form(2, ('tells', (0,), 1)), is_following(KEY, CIPHER), judge_under((3, (((0,), 1),)), ())[0], under_holds((3, (((0,), 1),)), (), ('sum', 1, ((('alone', 0), 1), (('shared', 0, 1, (2,)), 1), (('shared', 0, 2, ()), 1)), ())), under_holds(KEY, (), ('broken', ((('hit', (0,)), 2),))), least_positions(KEY, CIPHER), needless_positions(CIPHER)]
[(2, (((0,), 1), ((0, 1), -1))), True, 'sum', True, True, (0, 1), ()]
>>> told_statements((statement_form(3, ('tells', (), 1)), statement_form(3, ('tells', (0,), 2))))
(('apart', 0, 1, ()), ('apart', 0, 1, (2,)), ('apart', 1, 2, ()), ('apart', 1, 2, (0,)), ('tells', (), 1), ('tells', (0,), 1), ('tells', (0,), 2), ('tells', (0, 1), 2), ('tells', (0, 2), 1), ('tells', (2,), 1))
"""

COINS = r"""
>>> from toldamounts.coins import breaking_world, coin_world, judge_table, table_holds, told_sum_table
>>> [coin_world(((('hit', (0, 2)), 1),)), told_sum_table(3, ((('hit', (0,)), 2), (('three',), 1))), table_holds((3, (0, 0, 1, 1, 0, 1, 1)), ('parts', 1, ((('hit', (2,)), 1),))), judge_table((3, (1, 1, 1, 1, 1, 1, 0)))[0], breaking_world((3, (((0,), 1),)))]
[(3, (((0, 0, 0), 1), ((1, 0, 1), 1))), (3, (3, 4, 4, 4, 1, 2, 1)), True, 'parts', None]
>>> table_holds((3, (1, 1, 1, 1, 0, 0, 1)), ('below', ('alone', 0)))
False
"""

GROUPS = r"""
>>> from toldamounts.groups import judge_member, member_holds, members_of, then
>>> [then(3, (1, 2, 0), (1, 0, 2)), members_of(3, ((1, 2, 0),)), judge_member(3, ((1, 2, 0),), (1, 0, 2)), member_holds(3, ((1, 2, 0),), (2, 0, 1), ('row', (0, 0)))]
[(0, 2, 1), ((0, 1, 2), (1, 2, 0), (2, 0, 1)), ('closed', ((0, 1, 2), (1, 2, 0), (2, 0, 1))), True]
"""

GROUPINGS = r"""
>>> from toldamounts.groupings import five_orders, group_amount, group_value, grouping_world, meet_of
>>> from toldamounts.spaceforms import four_form
>>> SWAPS = (3, ((1, 0, 2), (1, 2, 0)), (((1, 0, 2),), ((0, 2, 1),)))
>>> [meet_of(SWAPS, (0, 1)), group_amount(SWAPS, (0,)), group_amount(SWAPS, (0, 1)), grouping_world(SWAPS)[1][0], group_value(five_orders(), four_form(0, 1))]
[((0, 1, 2),), (1, ((3, 1),)), (1, ((2, 1), (3, 1))), ((0, 0), 1), (1, ((2, -4), (3, 1), (5, 1)))]
"""

COPIES = r"""
>>> from toldamounts.copies import copies_hold, copy_form, told_paper
>>> from toldamounts.spaceforms import four_form
>>> from toldamounts.verdicts import drawn_holds, four_rows, judge_drawn, system_world
>>> PAPER = (0, (2, 3), 1, ((('shared', 0, 1, (4,)), 1), (('shared', 0, 4, (1, 2, 3)), 1), (('shared', 0, 4, (2,)), 1), (('shared', 0, 4, (3,)), 1), (('shared', 1, 4, (0, 2, 3)), 1), (('shared', 1, 4, (2,)), 1), (('shared', 1, 4, (3,)), 1), (('shared', 2, 3, (0, 4)), 1), (('shared', 2, 3, (1, 4)), 1), (('shared', 2, 4, (0, 1, 3)), 1), (('shared', 3, 4, (0, 1)), 1)), ((('apart',), -3), (('same', ()), 1), (('same', (2,)), -2), (('same', (2, 3)), 3), (('same', (3,)), -2)))
>>> [copies_hold(copy_form(0, 1), PAPER), judge_drawn(copy_form(0, 1))[0], judge_drawn(four_form(0, 1))[0], drawn_holds(four_form(0, 1), ('world', four_rows())), system_world((2, 1, (((1,),), (), (), ((1,),))))]
[True, 'sum', 'world', True, (4, (((0, 0, 0, 0), 1), ((1, 0, 0, 1), 1)))]
"""

APARTLOTS = r"""
>>> from toldamounts.apartlots import is_saying, judge_saying, odd_world, saying_holds, sayings_from
>>> [is_saying(3, ((0,), (1, 2))), is_saying(3, ((1, 2), (0,))), odd_world(2, (0, 1)), judge_saying(3, (((0,), (1,)),), ((0,), (2,)))]
[True, False, (2, (((0, 0), 1), ((1, 1), 1))), ('odd', (0, 2))]
>>> STEPS = ((((0,), (1,)), ('told',)), (((0, 1), (2,)), ('told',)), (((0,), (1, 2)), ('more', 0, 1)))
>>> [saying_holds(3, (((0,), (1,)), ((0, 1), (2,))), ((0,), (1, 2)), ('steps', STEPS)), sayings_from(3, (((0,), (1, 2)),))]
[True, (((0,), (1,)), ((0,), (1, 2)), ((0,), (2,)))]
"""

SIDES_SEEN = r"""
>>> from toldamounts.sides import cover_holds, is_points, judge_cover, keeps_weights, points_world, sizes_of
>>> CORNER = ((0, 0, 0), (0, 0, 1), (0, 1, 0), (1, 0, 0))
>>> SIDES = (2, (((0, 1), 1), ((0, 2), 1), ((1, 2), 1)))
>>> [sizes_of(CORNER), keeps_weights(CORNER, SIDES), judge_cover(3, SIDES), judge_cover(3, (2, (((0, 1), 2), ((1, 2), 1)))), cover_holds(2, (1, (((0,), 1),)), ('short', 0)), points_world(((0, 5), (1, 5)))]
[(3, (2, 3, 4, 3, 2, 3, 2)), True, ('cover',), ('short', 2), False, (2, (((0, 5), 1), ((1, 5), 1)))]
"""

JOINS = r"""
>>> from toldamounts.joins import answer_of, is_question, judge_rows, keeps_keys, rows_hold
>>> ROUND = (((0, 1), (0, 2), (1, 2)), ())
>>> KEYED = (((0, 1), (1, 2)), (((1,), 2),))
>>> PAIRS = ((0, 0), (0, 1), (1, 0))
>>> [answer_of(ROUND, (PAIRS, PAIRS, PAIRS)), keeps_keys(KEYED, (PAIRS, PAIRS)), judge_rows(ROUND, 2, (1, 1, 1))[0], judge_rows(ROUND, 2, (1, 1, 0))[0], judge_rows(KEYED, 1, (1, 0))[0]]
[((0, 0, 0), (0, 0, 1), (0, 1, 0), (1, 0, 0)), False, 'always', 'store', 'always']
>>> rows_hold((((0, 1), (1, 2)), ()), 1, (1, 0), ('store', (((0, 0),), ((0, 0), (0, 1)))))
True
"""

SECRETS = r"""
>>> from toldamounts.commonparts import blocks_of, common_amount, judge_common
>>> PARTS = (2, (((0, 0), 1), ((0, 1), 1), ((1, 0), 1), ((1, 1), 1), ((2, 2), 4)))
>>> [blocks_of(PARTS, (0,), (1,)), common_amount(PARTS, (0,), (1,)), judge_common(PARTS, (0,), (1,)), judge_common((2, (((0, 0), 2), ((0, 1), 1), ((1, 1), 1))), (0,), (1,))[0]]
[((((0,), (1,)), ((0,), (1,))), (((2,),), ((2,),))), (1, ((2, 1),)), ('equal',), 'unequal']
>>> from toldamounts.secrets import judge_dealing, judge_shares, opens, plain_dealing, shares_hold
>>> BOTH = (2, ((0, 1),))
>>> ROW = (4, ((0, 1), (1, 2), (2, 3)))
>>> [plain_dealing(BOTH), opens(ROW, (0, 2)), judge_dealing(BOTH, plain_dealing(BOTH)), judge_shares(BOTH, (1, 0), 1)[0], judge_shares(ROW, (0, 1, 1, 0), 3)[0], judge_shares(ROW, (1, 0, 0, 1), 3)[0]]
[(3, (((0, 0, 0), 1), ((0, 1, 1), 1), ((1, 0, 1), 1), ((1, 1, 0), 1))), False, ('right',), 'sum', 'sum', 'table']
"""

DESKS = r"""
>>> from toldamounts.desks import Desk, read_desk
>>> from toldamounts.statements import statement_form
>>> KEY = (3, (((0,), -1), ((1,), 1)))
>>> desk = Desk(3)
>>> [desk.put(statement_form(3, ('apart', 0, 2, ()))), desk.put(statement_form(3, ('tells', (1, 2), 0))), desk.claim(KEY), desk.undoable(), desk.would(KEY)[0], desk.text()]
[None, None, None, 3, 'sum', 'desk 3\ncondition\n-1 0\n1 0 2\n-1 2\ncondition\n-1 0 1 2\n1 1 2\nclaim\n-1 0\n1 1']
>>> [desk.undo(), desk.redoable(), desk.drop(0), desk.redoable(), len(desk.conditions()), read_desk('desk 4').size()]
[None, 1, None, 0, 1, 4]
>>> read_desk('desk 3\nclaim\n-1 0')
Traceback (most recent call last):
    ...
toldamounts.errors.BadText: 2
"""

ALL = {
    "amounts": AMOUNTS, "worlds": WORLDS, "makingworlds": MAKINGWORLDS, "forms": FORMS, "basics": BASICS, "formtexts": FORMTEXTS,
    "spaces": SPACES, "toldlots": TOLDLOTS, "spaceforms": SPACEFORMS, "written out": WRITTEN_OUT,
    "conditions": CONDITIONS, "coins": COINS, "groups": GROUPS, "groupings": GROUPINGS,
    "copies and verdicts": COPIES, "apartlots": APARTLOTS, "sides": SIDES_SEEN,
    "joins": JOINS, "commonparts and secrets": SECRETS, "desks": DESKS,
}
