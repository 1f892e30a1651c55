"""What the tests share: odd values, and a look at which error a call raises."""

import unittest

# Values that are no world, form, lot, amount or certificate of any kind.
ODD = [
    None, True, False, 0, 1, 5, -1, 10 ** 99, "", "a", "tells", "()", "form 1", [], [0], [1, []], {}, {0: 1}, {"a": ()},
    (), (1,), (0, 1, 2, 3, 4, 5, 6), (1, 2, 3), ("tells", 1), (None, None), (True, ()), (1, None), (1, []), [1, ()],
    ((),), ([],), ({},), (((),),), ("a", "b"), (1, (None,)), (1, ((),)), (1, ((1,),)), (1, (1, 2)), (1, ({},)),
]


def same(one, other):
    """Whether two values are equal, with bools only equal to bools, all the way down."""
    if isinstance(one, bool) or isinstance(other, bool):
        return one is other
    if isinstance(one, (tuple, list)) and isinstance(other, (tuple, list)):
        if isinstance(one, tuple) != isinstance(other, tuple) or len(one) != len(other):
            return False
        return all(same(a, b) for a, b in zip(one, other))
    if isinstance(one, dict) and isinstance(other, dict):
        return len(one) == len(other) and all(key in other and same(one[key], other[key]) for key in one)
    return one == other


class Checked(unittest.TestCase):
    """A test case that can look at an error's class and at all that it carries."""

    def assert_error(self, kind, carried, call, /, *args, **named):
        """The call raises an error of just this class with just these attributes, each time it is called."""
        for _ in range(2):
            with self.assertRaises(kind) as caught:
                call(*args, **named)
            error = caught.exception
            self.assertIs(error.__class__, kind)
            self.assertEqual(sorted(vars(error)), sorted(carried))
            for name, worth in carried.items():
                self.assertTrue(same(getattr(error, name), worth), (name, getattr(error, name), worth))

    def assert_thing(self, kind, thing, call, /, *args, **named):
        """The call raises an error of just this class with just this thing."""
        self.assert_error(kind, {"thing": thing}, call, *args, **named)

    def assert_same(self, one, other):
        """Both are equal, with integers as integers and tuples as tuples."""
        self.assertTrue(same(one, other), (one, other))

    def assert_true(self, thing, why=None):
        """The value is True itself."""
        self.assertIs(thing, True, why)

    def assert_false(self, thing, why=None):
        """The value is False itself."""
        self.assertIs(thing, False, why)
