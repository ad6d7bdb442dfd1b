"""Point 14."""

import random
import unittest
from itertools import product

from outpressed.stretches import fill


def fill_slowly(length, counts):
    return max(sum(taken) for taken in product(*[range(count + 1) for count in counts])
               if sum((k + 1) * many for k, many in enumerate(taken)) <= length)


class FillTest(unittest.TestCase):
    def test_small_ones_by_the_definition(self):
        source = random.Random(14)
        for _ in range(300):
            counts = [source.randint(0, 3) for _ in range(source.randint(0, 5))]
            length = source.randint(0, 30)
            self.assertEqual(fill_slowly(length, counts), fill(length, counts), (length, counts))

    def test_edges(self):
        self.assertEqual(0, fill(0, []))
        self.assertEqual(0, fill(10 ** 9, ()))
        self.assertEqual(0, fill(0, [5, 5]))
        self.assertEqual(0, fill(3, [0, 0, 0, 9]))
        self.assertEqual(1, fill(4, [0, 0, 0, 9]))
        self.assertEqual(4, fill(length=8, counts=(2, 1, 1)))
        self.assertEqual(3, fill(length=6, counts=(2, 1, 1)))

    def test_bounds(self):
        self.assertEqual(10 ** 9, fill(10 ** 9, [10 ** 9] * 400))
        self.assertEqual(10 ** 9 // 400, fill(10 ** 9, [0] * 399 + [10 ** 9]))
        self.assertEqual(400, fill(10 ** 9, [1] * 400))

    def test_the_counts_are_not_changed(self):
        counts = [3, 2, 1]
        first = fill(5, counts)
        self.assertEqual([3, 2, 1], counts)
        self.assertEqual(first, fill(5, tuple(counts)))


if __name__ == "__main__":
    unittest.main()
