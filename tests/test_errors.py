"""The list of errors under "The interface"."""

import unittest

from toldamounts import errors
from toldamounts.errors import AmountError

WITH_THING = [
    "BadAmount", "BadNumber", "BadCounts", "BadWorld", "BadLot", "BadLots", "BadForm", "BadForms", "BadTable", "BadName",
    "BadRenaming", "BadSystem", "BadPrime", "BadMotion", "BadMotions", "BadGrouping", "BadSaying", "BadSayings",
    "BadPoints", "BadWeights", "BadQuestion", "BadStore", "BadStructure", "OtherSize",
]
PARAMETERS = {name: ["thing"] for name in WITH_THING}
PARAMETERS.update({
    "BadText": ["at"], "Broken": ["certificate"], "Unkept": ["at", "certificate"],
    "NothingToUndo": [], "NothingToRedo": [],
})
WORTHS = [None, True, 7, "text", (1, (2,)), [3], {"a": 4}, 10 ** 99, 10 ** 6000]


class TestErrors(unittest.TestCase):

    def test_base_classes(self):
        self.assertEqual(AmountError.__bases__, (Exception,))
        for name in PARAMETERS:
            self.assertEqual(getattr(errors, name).__bases__, (AmountError,), name)

    def test_defined_in_their_file_and_nothing_else_is(self):
        found = [name for name, worth in vars(errors).items() if isinstance(worth, type)]
        self.assertEqual(sorted(found), sorted(list(PARAMETERS) + ["AmountError"]))
        for name in found:
            self.assertEqual(getattr(errors, name).__module__, "toldamounts.errors")

    def test_parameters_by_position_are_attributes(self):
        for name, parameters in PARAMETERS.items():
            for at in range(len(WORTHS)):
                passed = [WORTHS[(at + k) % len(WORTHS)] for k in range(len(parameters))]
                error = getattr(errors, name)(*passed)
                self.assertEqual(list(vars(error)), parameters)
                for parameter, worth in zip(parameters, passed):
                    self.assertIs(getattr(error, parameter), worth)

    def test_parameters_by_name_are_attributes(self):
        for name, parameters in PARAMETERS.items():
            for at in range(len(WORTHS)):
                passed = {parameter: WORTHS[(at + k) % len(WORTHS)] for k, parameter in enumerate(parameters)}
                error = getattr(errors, name)(**passed)
                for parameter, worth in passed.items():
                    self.assertIs(getattr(error, parameter), worth)

    def test_parameters_cannot_be_left_out(self):
        for name, parameters in PARAMETERS.items():
            if parameters:
                with self.assertRaises(TypeError):
                    getattr(errors, name)()

    def test_they_are_raised_and_caught_by_the_base_class(self):
        for name, parameters in PARAMETERS.items():
            with self.assertRaises(AmountError):
                raise getattr(errors, name)(*parameters)


if __name__ == "__main__":
    unittest.main()
