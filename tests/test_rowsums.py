import math
import random
import unittest

from poolrules.rowsums import divisor, first_place, mixed, row_sum, slimmed


class RowsTest(unittest.TestCase):
    def test_sums(self):
        self.assertEqual(row_sum([], []), 0)
        self.assertEqual(row_sum([1, -2, 3], [10, 20, 10 ** 70]), 3 * 10 ** 70 - 30)
        self.assertEqual(mixed(2, [1, 0, -1], -3, [1, 1, 10 ** 60]), [-1, -3, -2 - 3 * 10 ** 60])

    def test_divisors(self):
        for row, want in (([], 0), ([0, 0], 0), ([5], 5), ([-4, 6], 2), ([0, -7], 7), ([3, 5, 0], 1), ([12, 18, -30], 6)):
            self.assertEqual(divisor(row), want)
        chance = random.Random(2)
        for _ in range(300):
            row = [chance.randint(-99, 99) * chance.choice((0, 1, 6, 10 ** 40)) for _ in range(chance.randint(0, 6))]
            self.assertEqual(divisor(row), math.gcd(*row))

    def test_rows_made_slim(self):
        for row, want in (([], []), ([0, 0], [0, 0]), ([-4, 6, 0], [-2, 3, 0]), ([7], [1]), ([-7], [-1]), ([2, 3], [2, 3])):
            kept = list(row)
            slim = slimmed(row)
            self.assertEqual(slim, want)
            slim.append(1)
            self.assertEqual(row, kept)

    def test_first_places(self):
        for row, want in (([], None), ([0, 0], None), ([0, -3, 1], 1), ([2], 0)):
            self.assertEqual(first_place(row), want)


if __name__ == "__main__":
    unittest.main()
