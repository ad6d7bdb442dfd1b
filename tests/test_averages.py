"""Points 20 and 21."""

import unittest
from fractions import Fraction

from outpressed.averages import heaviest, lightest, total_bits, weight_sum
from outpressed.machines import Machine
from outpressed.ratios import lowest_terms
from tests.brute import EXAMPLE, random_machines, run_slowly, texts_of


class AveragesTest(unittest.TestCase):
    def test_the_example(self):
        machine = Machine("ab", EXAMPLE)
        self.assertEqual([7, (1, "ba"), (2, "aa"), (5, 4)],
                         [total_bits(machine, 2), lightest(machine, 2), heaviest(machine, 2), weight_sum(machine, 2)])

    def check(self, machine, length):
        told = [(len(run_slowly(machine, text)[0]), text) for text in texts_of(machine.alphabet, length)]
        self.assertEqual(sum(bits for bits, _ in told), total_bits(machine, length))
        self.assertEqual(min(told), lightest(machine, length))
        self.assertEqual(min(told, key=lambda pair: (-pair[0], pair[1])), heaviest(machine, length))
        total = sum(Fraction(1, 2 ** bits) for bits, _ in told)
        self.assertEqual((total.numerator, total.denominator), weight_sum(machine, length))

    def test_by_the_definition(self):
        for machine in random_machines(20, 120, standings=4, longest=3):
            for length in range(5):
                self.check(machine, length)

    def test_no_letters(self):
        machine = Machine("ab", EXAMPLE)
        self.assertEqual([0, (0, ""), (0, ""), (1, 1)],
                         [total_bits(machine, 0), lightest(machine, 0), heaviest(machine, 0), weight_sum(machine, 0)])

    def test_standings_that_are_not_reached(self):
        machine = Machine("a", [[(0, "1")], [(0, "")], [(2, "111")]])
        self.assertEqual([4, (4, "aaaa"), (4, "aaaa"), (1, 16)],
                         [total_bits(machine, 4), lightest(machine, 4), heaviest(machine, 4), weight_sum(machine, 4)])

    def test_sixty_letters(self):
        machine = Machine("abcdef", [[(0, "0"), (1, "10"), (2, "110"), (1, ""), (0, "1111"), (2, "")]] * 3)
        self.assertEqual(60 * 10 * 6 ** 59, total_bits(machine, 60))
        self.assertEqual((0, "d" * 60), lightest(machine, 60))
        self.assertEqual((240, "e" * 60), heaviest(machine, 60))
        each = Fraction(1, 2) + Fraction(1, 4) + Fraction(1, 8) + 1 + Fraction(1, 16) + 1
        self.assertEqual((each ** 60).as_integer_ratio(), weight_sum(machine, 60))
        plain = Machine.plain("ab")
        self.assertEqual([60 * 2 ** 60, (60, "a" * 60), (60, "a" * 60), (1, 1)],
                         [total_bits(plain, 60), lightest(plain, 60), heaviest(plain, 60), weight_sum(plain, 60)])

    def test_by_name_and_again(self):
        machine = Machine("ab", EXAMPLE)
        for function in (total_bits, lightest, heaviest, weight_sum):
            first = function(machine, 5)
            function(Machine.plain("abc"), 3)
            self.assertEqual(first, function(length=5, machine=machine))


class FractionsTest(unittest.TestCase):
    def test_lowest_terms(self):
        self.assertEqual([(0, 1), (0, 1), (3, 2), (5, 1), (-1, 2)],
                         [lowest_terms(top, bottom) for top, bottom in ((0, 1), (0, 9), (6, 4), (10, 2), (-3, 6))])


if __name__ == "__main__":
    unittest.main()
