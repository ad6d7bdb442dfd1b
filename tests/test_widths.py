"""Point 11."""

import unittest

from outpressed.widths import number_bits, width


class WidthsTest(unittest.TestCase):
    def test_width_is_the_least_number_of_bits(self):
        self.assertEqual([0, 1, 2, 2, 3, 3, 3, 3, 4], [width(options) for options in range(1, 10)])
        for options in range(1, 3000):
            bits = width(options)
            self.assertGreaterEqual(2 ** bits, options)
            self.assertTrue(bits == 0 or 2 ** (bits - 1) < options)

    def test_width_of_any_size(self):
        for power in (1, 63, 64, 65, 1000, 20000):
            self.assertEqual(power, width(2 ** power))
            self.assertEqual(power + 1, width(2 ** power + 1))
        self.assertEqual(100, width(options=10 ** 30))

    def test_number_bits(self):
        self.assertEqual("", number_bits(0, 1))
        self.assertEqual(["0", "1"], [number_bits(k, 2) for k in range(2)])
        self.assertEqual(["00", "01", "10"], [number_bits(k, 3) for k in range(3)])
        self.assertEqual("0110", number_bits(number=6, options=9))
        for options in range(1, 70):
            told = [number_bits(number, options) for number in range(options)]
            self.assertEqual({width(options)}, {len(bits) for bits in told})
            self.assertEqual(list(range(options)), [int("0" + bits, 2) for bits in told])

    def test_number_bits_at_the_bound(self):
        bits = number_bits(10 ** 100 - 1, 10 ** 100)
        self.assertEqual(10 ** 100 - 1, int(bits, 2))
        self.assertEqual(333, len(bits))
        self.assertEqual("0" * 333, number_bits(0, 10 ** 100))


if __name__ == "__main__":
    unittest.main()
