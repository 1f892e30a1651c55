"""Which multiples of columns add up to a wanted column: what the certificates of forms rest on."""

import random
import unittest

from toldamounts.weighing import weigh


class TestWeighing(unittest.TestCase):

    def check(self, columns, wanted):
        m, numbers = weigh(columns, wanted)
        self.assertTrue(all(number.__class__ is int for number in [m] + numbers))
        if m > 0:
            self.assertEqual(len(numbers), len(columns))
            self.assertGreaterEqual(min(numbers, default=0), 0)
            for at, item in enumerate(wanted):
                self.assertEqual(sum(number * column[at] for number, column in zip(numbers, columns)), m * item)
            return True
        self.assertEqual(m, 0)
        self.assertEqual(len(numbers), len(wanted))
        for column in columns:
            self.assertGreaterEqual(sum(a * b for a, b in zip(numbers, column)), 0)
        self.assertLess(sum(a * b for a, b in zip(numbers, wanted)), 0)
        return False

    def test_told_columns(self):
        self.assertEqual(weigh([[2]], [3]), (2, [3]))
        self.assertEqual(weigh([[1, 0], [0, 1]], [4, 5]), (1, [4, 5]))
        self.assertEqual(weigh([], [0, 0]), (1, []))
        self.assertEqual(weigh([[1, 1]], [0, 0]), (1, [0]))
        self.assertEqual(weigh([[3, 3]], [-3, -3])[0], 0)
        self.assertTrue(self.check([[1, -1], [-1, 2]], [0, 1]))
        self.assertFalse(self.check([[1, -1], [-1, 2]], [-2, 1]))
        self.assertFalse(self.check([], [0, -4]))

    def test_any_columns(self):
        choose = random.Random(8)
        found = {True: 0, False: 0}
        for _ in range(400):
            lines, many = choose.randint(1, 5), choose.randint(0, 8)
            columns = [[choose.randint(-3, 3) for _ in range(lines)] for _ in range(many)]
            wanted = [choose.randint(-9, 9) for _ in range(lines)]
            found[self.check(columns, wanted)] += 1
        self.assertGreater(min(found.values()), 50)

    def test_sums_are_found(self):
        choose = random.Random(9)
        for _ in range(200):
            lines, many = choose.randint(1, 6), choose.randint(1, 8)
            columns = [[choose.randint(-3, 3) for _ in range(lines)] for _ in range(many)]
            weights = [choose.choice([0, 0, 1, 2, 50]) for _ in range(many)]
            wanted = [sum(weight * column[at] for weight, column in zip(weights, columns)) for at in range(lines)]
            self.assertTrue(self.check(columns, wanted))

    def test_columns_that_go_round_without_care(self):
        # E. Beale's example, with its slacks: the simplex method can come back to where it was here.
        columns = [[1, 2, 0], [-32, -48, 0], [-4, -2, 0], [36, 12, 4], [1, 0, 0], [0, 1, 0], [0, 0, 1]]
        for wanted in ([0, 0, 4], [0, 0, -4], [0, 0, 0], [0, 1, 0], [-1, 0, 0]):
            self.check(columns, wanted)


if __name__ == "__main__":
    unittest.main()
