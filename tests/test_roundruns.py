"""Point 42."""

import random
import unittest
from fractions import Fraction

from outpressed.errors import AlphabetsDiffer
from outpressed.machines import Machine
from outpressed.roundruns import bits_on, rate_on, settle
from outpressed.rounds import Round
from tests.brute import EXAMPLE, random_machines, random_round, run_slowly

GREAT = 10 ** 30


def settle_slowly(machine, endless):
    """The least numbers before and period, by point 42."""
    lasts = [run_slowly(machine, endless.head + endless.ring * k)[1] for k in range(2 * machine.standings + 2)]
    for before in range(machine.standings + 1):
        for period in range(1, machine.standings + 1):
            if lasts[before + period] == lasts[before]:
                return before, period


def ring_machine(standings):
    """A machine over one letter that goes through all standings and writes a bit in the last one."""
    return Machine("a", [[((k + 1) % standings, "1" if k == standings - 1 else "")] for k in range(standings)])


class SettleTest(unittest.TestCase):
    def test_by_the_definition(self):
        source = random.Random(42)
        found = set()
        for machine in random_machines(42, 300, alphabets=("a", "ab"), standings=7):
            endless = random_round(source, machine.alphabet, 4)
            answer = settle(machine, endless)
            self.assertEqual(settle_slowly(machine, endless), answer)
            found.add(answer)
        self.assertTrue({(0, 1), (0, 2), (1, 1), (1, 2), (2, 1), (0, 3)} <= found)

    def test_known_ones(self):
        self.assertEqual((0, 1), settle(Machine.plain("ab"), Round("ab", "a", "b")))
        self.assertEqual([(0, 60), (0, 60)], [settle(ring_machine(60), Round("a", head, "a")) for head in ("", "aaa")])
        line = Machine("ab", [[(min(k + 1, 59), ""), (k, "")] for k in range(60)])
        self.assertEqual([(59, 1), (0, 1), (58, 1), (30, 1)],
                         [settle(line, Round("ab", head, ring))
                          for head, ring in (("", "a"), ("a", "b"), ("ab", "a"), ("", "aab"))])

    def test_the_fields_are_read_not_what_was_passed(self):
        # The ring that was passed leads back at once, the shortest one does not.
        self.assertEqual((0, 3), settle(ring_machine(3), Round("a", "", "aaa")))


class BitsOnTest(unittest.TestCase):
    def test_by_the_definition(self):
        source = random.Random(421)
        for machine in random_machines(421, 150, alphabets=("a", "ab", "abc"), standings=6):
            endless = random_round(source, machine.alphabet, 5)
            text = endless.beginning(80)
            for length in range(81):
                self.assertEqual(len(run_slowly(machine, text[:length])[0]), bits_on(machine, endless, length))

    def test_great_lengths(self):
        source = random.Random(422)
        for machine in random_machines(422, 100, alphabets=("a", "ab"), standings=6):
            endless = random_round(source, machine.alphabet, 5)
            before, period = settle(machine, endless)
            around = period * len(endless.ring)
            top, bottom = rate_on(machine, endless)
            times = (GREAT - 100) // around
            for length in range(len(endless.head) + before * len(endless.ring), 80, 7):
                self.assertEqual(bits_on(machine, endless, length) + times * around * top // bottom,
                                 bits_on(machine, endless, length + times * around))

    def test_the_greatest_length(self):
        self.assertEqual(GREAT, bits_on(Machine.plain("a"), Round("a", "", "a"), GREAT))
        self.assertEqual(GREAT // 60, bits_on(ring_machine(60), Round("a", "", "a"), GREAT))
        self.assertEqual(0, bits_on(Machine("a", [[(0, "")]]), Round("a", "", "a"), GREAT))
        self.assertEqual(GREAT + 10 ** 30 // 2 - 2, bits_on(Machine("ab", [[(0, "1"), (0, "00")]]),
                                                            Round("ab", "aaaa", "ba"), GREAT))

    def test_no_letters(self):
        for head in ("", "a", "abab"):
            self.assertEqual(0, bits_on(Machine.plain("ab"), Round("ab", head, "b"), 0))


class RateOnTest(unittest.TestCase):
    def test_by_the_definition(self):
        source = random.Random(423)
        for machine in random_machines(423, 300, alphabets=("a", "ab"), standings=6):
            endless = random_round(source, machine.alphabet, 5)
            before, period = settle(machine, endless)
            start = run_slowly(machine, endless.head + endless.ring * before)[1]
            bits, last = run_slowly(machine, endless.ring * period, start)
            self.assertEqual(start, last)
            told = Fraction(len(bits), period * len(endless.ring))
            self.assertEqual((told.numerator, told.denominator), rate_on(machine, endless))

    def test_known_ones(self):
        machine = Machine("ab", EXAMPLE)
        self.assertEqual([(1, 1), (1, 1), (1, 1)], [rate_on(machine, Round("ab", "", ring)) for ring in ("a", "b", "ab")])
        self.assertEqual([(0, 1), (1, 60), (3, 2)],
                         [rate_on(Machine("a", [[(1, "1")], [(1, "")]]), Round("a", "", "a")),
                          rate_on(ring_machine(60), Round("a", "", "a")),
                          rate_on(Machine("ab", [[(0, "1"), (0, "00")]]), Round("ab", "bbbb", "ab"))])


class AllThreeTest(unittest.TestCase):
    def calls(self):
        return (settle, rate_on, lambda machine, endless: bits_on(machine, endless, 0))

    def test_alphabets_differ(self):
        for call in self.calls():
            for one, two in (("ab", "abc"), ("ab", "a"), ("01", "ab")):
                with self.assertRaises(AlphabetsDiffer) as caught:
                    call(Machine.plain(one), Round(two, "", two[0]))
                self.assertEqual((one, two), (caught.exception.one, caught.exception.two))

    def test_by_name_and_again(self):
        machine, endless = Machine("ab", EXAMPLE), Round("ab", "b", "aab")
        first = [call(machine, endless) for call in self.calls()] + [bits_on(machine, endless, 77)]
        for call in self.calls():
            call(Machine.plain("a"), Round("a", "", "a"))
        self.assertEqual(first, [settle(endless=endless, machine=machine), rate_on(endless=endless, machine=machine), 0,
                                 bits_on(length=77, endless=endless, machine=machine)])

    def test_machines_with_many_standings(self):
        one = Machine("ab", [[((k + 1) % 59, "0"), ((k + 1) % 59, "1")] for k in range(59)])
        two = Machine("01", [[((k + 1) % 60, "0"), ((k + 1) % 60, "11")] for k in range(60)])
        machine, endless = one >> two, Round("ab", "b" * 60, "a" * 59 + "b")
        self.assertEqual((0, 59), settle(machine, endless))
        self.assertEqual((61, 60), rate_on(machine, endless))
        self.assertEqual(120 + 61 * 10 ** 28, bits_on(machine, endless, 60 + 60 * 10 ** 28))


if __name__ == "__main__":
    unittest.main()
