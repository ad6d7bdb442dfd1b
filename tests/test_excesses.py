"""Point 35."""

import unittest

from outpressed.blocks import pressed_length
from outpressed.excesses import excess, log, told_excess
from outpressed.floors import floor_bits

GREAT = [10 ** 9, 2 ** 64 - 2, 2 ** 64 - 1, 2 ** 64, 2 ** 99 - 1, 2 ** 99, 10 ** 30 - 1, 10 ** 30]


class ExcessTest(unittest.TestCase):
    def test_by_the_definition(self):
        for size in range(1, 7):
            for standings in (1, 2, 3, 60, 3600):
                for count in list(range(40)) + GREAT:
                    self.assertEqual(pressed_length(size, count) - floor_bits(standings, count),
                                     excess(size, standings, count))

    def test_known_ones(self):
        # The block of a text with 2 pieces over ab has 9 bits, and two standings can do with 1.
        self.assertEqual([8, 2, 1], [excess(2, 2, 2), excess(2, 1, 0), excess(1, 1, 0)])
        # Over one letter the presser may be below the floor.
        self.assertEqual(15 + 4 - 34, excess(1, 1, 14))

    def test_it_grows_with_the_count(self):
        for size in range(2, 7):
            for standings in (1, 2, 5, 60, 3600):
                for count in list(range(60)) + [power - 1 for power in GREAT]:
                    self.assertLess(excess(size, standings, count), excess(size, standings, count + 1))

    def test_by_name_and_again(self):
        first = excess(count=9, size=2, standings=3)
        excess(1, 1, 1)
        self.assertEqual(first, excess(2, 3, 9))


class ToldExcessTest(unittest.TestCase):
    def told_slowly(self, size, standings, count):
        a = next(w for w in range(9) if 2 ** w >= size)
        d = next(w for w in range(19) if 2 ** w >= standings)
        g = max(g for g in range(200) if 2 ** g <= count + 1)
        return count * (a + 1 + 2 * d) + a + 2 + 2 * g

    def test_by_the_definition(self):
        for size in range(1, 7):
            for standings in (1, 2, 3, 4, 5, 64, 65, 3600):
                for count in list(range(40)) + GREAT:
                    self.assertEqual(self.told_slowly(size, standings, count), told_excess(size, standings, count))

    def test_known_ones(self):
        self.assertEqual([13, 2, 3], [told_excess(2, 2, 2), told_excess(1, 1, 0), told_excess(2, 1, 0)])
        self.assertEqual(10 ** 30 * 28 + 5 + 2 * 99, told_excess(6, 3600, 10 ** 30))

    def test_it_is_never_less_than_the_excess(self):
        for size in range(1, 7):
            for standings in [1, 2, 3, 4, 5, 8, 9, 60, 3600]:
                for count in list(range(300)) + GREAT:
                    self.assertGreaterEqual(told_excess(size, standings, count), excess(size, standings, count))

    def test_by_name_and_again(self):
        first = told_excess(count=9, size=2, standings=3)
        told_excess(1, 1, 1)
        self.assertEqual(first, told_excess(2, 3, 9))


class LogTest(unittest.TestCase):
    def test_it_is_the_greatest_power(self):
        for number in list(range(1, 300)) + [2 ** 100 - 1, 2 ** 100, 10 ** 30 + 1]:
            self.assertTrue(2 ** log(number) <= number < 2 ** (log(number) + 1))


if __name__ == "__main__":
    unittest.main()
