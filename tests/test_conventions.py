"""The conventions ([0.2]): names, arguments, what is passed stays as it is, equal calls give equal results."""

import copy
import importlib
import inspect
import pathlib
import unittest

from tests.checks import Checked
from toldamounts import errors
from toldamounts.desks import Desk

WORLD = (3, (((0, 0, 0), 1), ((0, 1, 1), 1), ((1, 0, 1), 1), ((1, 1, 0), 1)))
AMOUNT = (4, ((2, 8), (3, -3)))
FORM = (3, (((0,), 1), ((0, 1), -3), ((1, 2), 5)))
TABLE = (3, (1, 2, 2, 2, 1, 2, 1))
SUM = ("sum", 1, ((("alone", 0), 1),))
SYSTEM = (2, 2, (((1, 0),), ((0, 1),), ((1, 1),), ()))
FOUR = (4, (((0,), 1), ((0, 1), -3), ((1, 2, 3), 5)))
CONDITIONS = ((3, (((0,), -1), ((0, 2), 1), ((2,), -1))), (3, (((0, 1, 2), -1), ((1, 2), 1))))
KEY = (3, (((0,), -1), ((1,), 1)))
TOLD = ((("hit", (0, 2)), 1), (("three",), 2))
MAKERS = ((1, 2, 0), (2, 0, 1))
GROUPING = (3, ((1, 0, 2), (1, 2, 0)), (((1, 0, 2),), ((0, 2, 1),)))
PAPER = (0, (2, 3), 1, ((("shared", 0, 1, (4,)), 1),), ((("apart",), -3), (("same", (2,)), -2)))
SAYINGS = (((0,), (1,)), ((0, 1), (2,)))
SAYING = ((0,), (1, 2))
POINTS = ((0, 0, 0), (0, 0, 1), (0, 1, 0), (1, 0, 0))
WEIGHTS = (2, (((0, 1), 1), ((0, 2), 1), ((1, 2), 1)))
QUESTION = (((0, 1), (1, 2)), (((1,), 2),))
STORE = (((0, 0), (0, 1), (1, 0)), ((0, 5), (1, 5)))
STRUCTURE = (2, ((0, 1),))

# Each function of the interface, with its parameters and arguments for which it raises no error; desks are tested by themselves.
CALLS = {
    "amounts": {
        "is_amount": {"thing": AMOUNT}, "amount_of": {"number": 12}, "spread": {"counts": (1, 3)},
        "plus": {"one": AMOUNT, "other": (1, ())}, "minus": {"one": AMOUNT, "other": (1, ())},
        "is_below": {"one": AMOUNT, "other": (1, ())}, "times": {"amount": AMOUNT, "top": 3, "bottom": 2},
        "sign_of": {"amount": AMOUNT}, "steps_of": {"amount": AMOUNT, "k": 7},
    },
    "worlds": {
        "is_world": {"thing": WORLD}, "view_of": {"world": WORLD, "lot": (0, 2)}, "lot_amount": {"world": WORLD, "lot": (1,)},
        "given_amount": {"world": WORLD, "lot": (1,), "given": (0,)},
        "shared_amount": {"world": WORLD, "one": (1,), "other": (0,), "given": (2,)},
        "judge_tells": {"world": WORLD, "one": (1,), "other": (0,)},
        "tells_holds": {"world": WORLD, "one": (1,), "other": (0,), "thing": ("tells",)},
        "judge_apart": {"world": WORLD, "one": (1,), "other": (0,), "given": (2,)},
        "apart_holds": {"world": WORLD, "one": (1,), "other": (0,), "given": (2,), "thing": ("apart",)},
    },
    "makingworlds": {
        "beside": {"one": WORLD, "other": WORLD}, "grouped": {"world": WORLD, "lots": ((0, 1), (2,), ())},
        "led_world": {"world": WORLD, "renaming": (1, 2, 0)},
    },
    "forms": {
        "is_form": {"thing": FORM}, "is_table": {"thing": TABLE}, "lots_of": {"n": 4}, "plus_forms": {"one": FORM, "other": FORM},
        "times_form": {"form": FORM, "k": -4}, "led_form": {"form": FORM, "renaming": (1, 2, 0)},
        "shared_form": {"n": 3, "one": (0,), "other": (1,), "given": (2,)}, "given_form": {"n": 3, "one": (0,), "given": (2,)},
        "value_at": {"form": FORM, "table": TABLE}, "value_in": {"form": FORM, "world": WORLD},
    },
    "basics": {
        "basic_names": {"n": 3}, "basic_form": {"n": 3, "name": ("shared", 0, 1, (2,))}, "is_kept": {"thing": TABLE},
        "judge_basic": {"form": FORM}, "basic_holds": {"form": FORM, "thing": SUM},
    },
    "formtexts": {"text_of": {"form": FORM}, "read_form": {"text": "form 2\n1 0"}},
    "spaces": {
        "is_system": {"thing": SYSTEM}, "rank_of": {"system": SYSTEM, "lot": (0, 2)}, "ranks_of": {"system": SYSTEM},
        "beside_systems": {"one": SYSTEM, "other": SYSTEM},
    },
    "toldlots": {
        "told_names": {"n": 4}, "told_table": {"n": 4, "name": ("wide", 2)}, "told_system": {"p": 3, "name": ("double", 0, 2)},
    },
    "spaceforms": {
        "four_form": {"i": 1, "j": 3}, "judge_spaces": {"form": FOUR}, "spaces_hold": {"form": FOUR, "thing": SUM},
        "breaking_system": {"p": 5, "form": FOUR},
    },
    "conditions": {
        "judge_under": {"form": KEY, "conditions": CONDITIONS}, "under_holds": {"form": KEY, "conditions": CONDITIONS, "thing": SUM},
        "is_following": {"form": KEY, "conditions": CONDITIONS}, "least_positions": {"form": KEY, "conditions": CONDITIONS},
        "needless_positions": {"conditions": CONDITIONS},
    },
    "statements": {
        "statement_form": {"n": 4, "statement": ("tells", (0, 1), 3)}, "told_statements": {"conditions": CONDITIONS},
    },
    "coins": {
        "coin_world": {"told": TOLD}, "told_sum_table": {"n": 3, "told": TOLD}, "judge_table": {"table": TABLE},
        "table_holds": {"table": TABLE, "thing": ("below", ("alone", 0))}, "breaking_world": {"form": FORM},
    },
    "groups": {
        "is_motion": {"m": 3, "thing": (0, 2, 1)}, "then": {"m": 3, "one": (0, 2, 1), "other": (1, 2, 0)},
        "members_of": {"m": 3, "makers": MAKERS}, "judge_member": {"m": 3, "makers": MAKERS, "motion": (1, 0, 2)},
        "member_holds": {"m": 3, "makers": MAKERS, "motion": (1, 0, 2), "thing": ("row", (0,))},
    },
    "groupings": {
        "is_grouping": {"thing": GROUPING}, "meet_of": {"grouping": GROUPING, "lot": (0, 1)},
        "group_amount": {"grouping": GROUPING, "lot": (0, 1)}, "group_value": {"grouping": GROUPING, "form": (2, (((1,), 3),))},
        "grouping_world": {"grouping": GROUPING}, "five_orders": {},
    },
    "copies": {"copy_form": {"i": 2, "j": 0}, "copies_hold": {"form": FOUR, "thing": PAPER}, "told_paper": {"i": 3, "j": 1}},
    "verdicts": {
        "system_world": {"system": SYSTEM}, "four_rows": {}, "judge_drawn": {"form": FOUR}, "drawn_holds": {"form": FOUR, "thing": SUM},
    },
    "apartlots": {
        "is_saying": {"n": 3, "thing": SAYING}, "odd_world": {"n": 3, "lot": (0, 2)},
        "judge_saying": {"n": 3, "sayings": SAYINGS, "saying": SAYING},
        "saying_holds": {"n": 3, "sayings": SAYINGS, "saying": SAYING, "thing": ("odd", (0, 2))}, "sayings_from": {"n": 3, "sayings": SAYINGS},
    },
    "sides": {
        "is_points": {"thing": POINTS}, "sizes_of": {"points": POINTS}, "keeps_weights": {"points": POINTS, "weights": WEIGHTS},
        "judge_cover": {"n": 3, "weights": WEIGHTS}, "cover_holds": {"n": 3, "weights": WEIGHTS, "thing": ("cover",)},
        "points_world": {"points": POINTS},
    },
    "joins": {
        "is_question": {"thing": QUESTION}, "is_store": {"question": QUESTION, "thing": STORE}, "keeps_keys": {"question": QUESTION, "store": STORE},
        "answer_of": {"question": QUESTION, "store": STORE}, "judge_rows": {"question": QUESTION, "m": 1, "factors": (1, 0)},
        "rows_hold": {"question": QUESTION, "m": 1, "factors": (1, 0), "thing": ("store", STORE)},
    },
    "commonparts": {
        "blocks_of": {"world": WORLD, "one": (0,), "other": (1, 2)}, "common_amount": {"world": WORLD, "one": (0,), "other": (1, 2)},
        "judge_common": {"world": WORLD, "one": (0,), "other": (1, 2)},
        "common_holds": {"world": WORLD, "one": (0,), "other": (1, 2), "thing": ("equal",)},
    },
    "secrets": {
        "is_structure": {"thing": STRUCTURE}, "opens": {"structure": STRUCTURE, "lot": (0, 1)}, "plain_dealing": {"structure": STRUCTURE},
        "judge_dealing": {"structure": STRUCTURE, "world": WORLD}, "dealing_holds": {"structure": STRUCTURE, "world": WORLD, "thing": ("right",)},
        "judge_shares": {"structure": STRUCTURE, "weights": (1, 2), "total": 3},
        "shares_hold": {"structure": STRUCTURE, "weights": (1, 2), "total": 3, "thing": ("sum", 1, ((("secret",), 1),))},
    },
}
CHANGEABLE = [[], [1, [2]], {}, {"a": [1]}, ([1], {"b": 2}), ("tells", [0]), (1, [((0,), 1)]), [("tells",)], {0: ()}]


def functions():
    """Each function of the interface with its arguments."""
    for module, calls in CALLS.items():
        found = importlib.import_module("toldamounts." + module)
        for name, arguments in calls.items():
            yield getattr(found, name), arguments


class TestConventions(Checked):

    def test_each_function_is_defined_in_its_own_file_with_its_parameters(self):
        for module, calls in CALLS.items():
            found = importlib.import_module("toldamounts." + module)
            for name, arguments in calls.items():
                function = getattr(found, name)
                self.assertEqual(function.__module__, "toldamounts." + module)
                self.assertEqual(list(inspect.signature(function).parameters), list(arguments), name)
                for parameter in inspect.signature(function).parameters.values():
                    self.assertEqual(parameter.kind, inspect.Parameter.POSITIONAL_OR_KEYWORD)
                    self.assertEqual(parameter.default, inspect.Parameter.empty)

    def test_by_position_by_name_and_again(self):
        for function, arguments in functions():
            first = function(*arguments.values())
            self.assert_same(function(**arguments), first)
            self.assert_same(function(**dict(reversed(list(arguments.items())))), first)
            self.assert_same(function(*arguments.values()), first)

    def test_results_are_of_the_told_kinds(self):
        def is_told(thing):
            if isinstance(thing, tuple):
                return all(is_told(part) for part in thing)
            return thing is None or thing.__class__ in (int, str, bool)
        for function, arguments in functions():
            result = function(**arguments)
            self.assertTrue(is_told(result), function)
            name = function.__name__
            if name.startswith(("is_", "are_")) or name.endswith(("_holds", "_hold")):
                self.assertIn(result, (True, False))
                self.assertIs(result.__class__, bool)

    def test_nothing_that_is_passed_is_changed(self):
        for function, arguments in functions():
            for parameter in arguments:
                for thing in CHANGEABLE:
                    passed = dict(arguments)
                    passed[parameter] = copy.deepcopy(thing)
                    try:
                        self.assert_false(function(**passed))
                    except self.failureException:
                        raise
                    except Exception as error:
                        self.assertEqual(error.__class__.__module__, "toldamounts.errors", error)
                        self.assert_same(vars(error), {"at": 0} if parameter == "text" else {"thing": thing})
                    self.assert_same(passed[parameter], thing)

    def test_a_call_with_an_error_changes_nothing_for_later_calls(self):
        for function, arguments in functions():
            before = function(**arguments)
            for parameter in arguments:
                try:
                    function(**dict(arguments, **{parameter: [None]}))
                except Exception as error:
                    self.assertEqual(error.__class__.__module__, "toldamounts.errors")
            self.assert_same(function(**arguments), before)

    def test_desks_are_no_other_things(self):
        for function, arguments in functions():
            for parameter in arguments:
                desk = Desk(3)
                desk.put(FORM)
                for thing in (desk, (desk,), [desk], (3, desk), (3, (desk,)), ("sum", desk, (desk,)), ("tells", {1: desk}), (desk, desk)):
                    try:
                        self.assert_false(function(**dict(arguments, **{parameter: thing})))
                    except self.failureException:
                        raise
                    except Exception as error:
                        self.assertEqual(error.__class__.__module__, "toldamounts.errors", error)
                        if parameter == "text":
                            self.assertEqual(vars(error), {"at": 0})
                        else:
                            self.assertEqual(list(vars(error)), ["thing"])
                            self.assertIs(error.thing, thing)
                self.assert_same((desk.size(), desk.conditions(), desk.claims(), desk.undoable()), (3, (FORM,), (), 1))

    def test_all_modules_of_the_interface_are_called(self):
        files = [path.stem for path in pathlib.Path(errors.__file__).parent.glob("*.py")]
        for module in list(CALLS) + ["errors", "desks"]:
            self.assertIn(module, files)
        self.assertEqual(len(CALLS), 21)
        self.assertEqual(sum(len(calls) for calls in CALLS.values()), 107)


if __name__ == "__main__":
    unittest.main()
