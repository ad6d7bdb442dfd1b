"""Points 33, 34 and 36."""

import random
import unittest
from fractions import Fraction

from outpressed.averages import heaviest, lightest, total_bits, weight_sum
from outpressed.cuts import cut_of
from outpressed.floors import floor_bits, shared_total
from outpressed.machines import Machine
from tests.brute import EXAMPLE, coming_back, late_rules, least_heaviest, run_slowly, shared_total_slowly


def floor_slowly(standings, count):
    """Point 33: the strings written out by their lengths, the shortest first."""
    lengths = [0] * (standings * (standings - 1) // 2)
    length = 1
    while len(lengths) < count:
        lengths += [length] * (standings ** 2 * 2 ** length)
        length += 1
    return sum(lengths[:count])


def sure_machines():
    """Machines of all sorts whose texts come back, with standings that wait among them."""
    return (coming_back(34, 40, standings=4, longest=3)
            + [Machine("ab", EXAMPLE), Machine.plain("abc"), Machine.plain("a")]
            + [Machine("ab", late_rules(letters)) for letters in (1, 2)])


class SharedTotalTest(unittest.TestCase):
    def test_the_example(self):
        self.assertEqual(31, shared_total(14, 1))

    def test_small_ones_by_the_definition(self):
        for share in list(range(1, 9)) + [100]:
            for count in range(200):
                lengths = sorted(length for length in range(9) for _ in range(share * 2 ** length))
                self.assertEqual(sum(lengths[:count]), shared_total(count, share), (count, share))

    def test_edges(self):
        self.assertEqual([0, 0, 0, 0], [shared_total(0, 1), shared_total(0, 10 ** 8), shared_total(1, 1),
                                        shared_total(10 ** 8, 10 ** 8)])
        self.assertEqual([1, 2, 4], [shared_total(2, 1), shared_total(3, 1), shared_total(4, 1)])
        self.assertEqual(1, shared_total(10 ** 8 + 1, 10 ** 8))

    def test_great_ones(self):
        # All strings with fewer than n bits: the sum of k * 2 ** k is (n - 2) * 2 ** n + 2.
        for n in (10, 99, 165):
            for share in (1, 3, 10 ** 8):
                if share * 2 ** n <= 10 ** 50:
                    full = share * (2 ** n - 1)
                    self.assertEqual(share * ((n - 2) * 2 ** n + 2), shared_total(full, share))
                    self.assertEqual(share * ((n - 2) * 2 ** n + 2) + n, shared_total(full + 1, share))
                    self.assertEqual(share * ((n - 2) * 2 ** n + 2) - n + 1, shared_total(full - 1, share))
        for share in (1, 7, 10 ** 8):
            self.assertEqual(shared_total_slowly(10 ** 50, share), shared_total(10 ** 50, share))

    def test_by_name_and_again(self):
        first = shared_total(share=3, count=50)
        shared_total(7, 7)
        self.assertEqual(first, shared_total(50, 3))


class FloorBitsTest(unittest.TestCase):
    def test_the_examples(self):
        self.assertEqual([34, 18], [floor_bits(1, 14), floor_bits(2, 14)])

    def test_small_ones_by_the_definition(self):
        for standings in (1, 2, 3, 4, 7, 12):
            for count in list(range(150)) + [1000, 3001]:
                self.assertEqual(floor_slowly(standings, count), floor_bits(standings, count), (standings, count))

    def test_edges(self):
        self.assertEqual([0, 0], [floor_bits(1, 0), floor_bits(3600, 0)])
        # With one standing no string is empty.
        self.assertEqual([1, 2, 4], [floor_bits(1, 1), floor_bits(1, 2), floor_bits(1, 3)])
        silent = 3600 * 3599 // 2
        self.assertEqual([0, 1], [floor_bits(3600, silent), floor_bits(3600, silent + 1)])
        level = 2 * 3600 ** 2
        self.assertEqual([level, level + 2], [floor_bits(3600, silent + level), floor_bits(3600, silent + level + 1)])

    def test_great_ones(self):
        for standings in (1, 2, 60, 3600):
            for n in (20, 70, 76):
                count = standings * (standings - 1) // 2 + standings ** 2 * (2 ** n - 2)
                if count < 10 ** 30:
                    total = standings ** 2 * ((n - 2) * 2 ** n + 2)
                    self.assertEqual(total, floor_bits(standings, count))
                    self.assertEqual(total + n, floor_bits(standings, count + 1))
            self.assertEqual(floor_bits(standings, 10 ** 30 - 1) + len(f"{10 ** 30 // standings ** 2:b}") - 1,
                             floor_bits(standings, 10 ** 30), standings)

    def test_by_name_and_again(self):
        first = floor_bits(count=50, standings=3)
        floor_bits(1, 7)
        self.assertEqual(first, floor_bits(3, 50))


class FloorsOfMachinesTest(unittest.TestCase):
    def test_different_stretches_and_pieces_need_the_floor(self):
        source = random.Random(34)
        for machine in sure_machines():
            reached = len(machine.reached)
            for _ in range(20):
                text = "".join(source.choice(machine.alphabet) for _ in range(source.randint(0, 60)))
                bits = len(run_slowly(machine, text)[0])
                stretches, at = set(), 0
                while at < len(text):
                    end = at + source.randint(1, 3)
                    stretches.add(text[at:end])
                    at = end + source.randint(0, 1)
                for count in (len(stretches), cut_of(machine.alphabet, text).many):
                    self.assertGreaterEqual(bits, floor_bits(reached, count))

    def test_some_texts_are_never_pressed(self):
        for machine in sure_machines():
            reached, size = len(machine.reached), len(machine.alphabet)
            for length in (0, 1, 2, 3, 7, 20):
                self.assertGreaterEqual(total_bits(machine, length), shared_total(size ** length, reached))
                most, least = heaviest(machine, length)[0], lightest(machine, length)[0]
                self.assertGreaterEqual(most, least_heaviest(reached, size ** length))
                self.assertLessEqual(Fraction(*weight_sum(machine, length)), reached * (most - least + 1))


if __name__ == "__main__":
    unittest.main()
