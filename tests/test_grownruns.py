"""Point 61."""

import random
import unittest

from outpressed.errors import AlphabetsDiffer, BadIndex
from outpressed.grown import Grown, beginning_of, grown_of, powered
from outpressed.grownruns import grown_bits, grown_in, grown_letters, grown_run
from outpressed.lots import Lot, lot_containing, lot_counting, lot_of
from outpressed.machines import Machine
from outpressed.roundruns import bits_on
from tests.brute import (EXAMPLE, LONG, SMALL, grown_slowly, late_rules, raised, random_growth, random_lots,
                         random_machines, random_round, random_rows, random_rules, run_slowly)

EXAMPLE_MACHINE = Machine("ab", EXAMPLE)
PLAIN = Machine.plain("ab")


class RunTest(unittest.TestCase):
    def test_by_the_definition(self):
        source = random.Random(61)
        for _ in range(200):
            alphabet = source.choice(["a", "ab", "abc"])
            rules = random_growth(source, alphabet, source.randint(1, 20), 200)
            text = grown_slowly(rules)[-1]
            grown = Grown(alphabet, rules)
            machine = Machine(alphabet, random_rules(source, len(alphabet), source.randint(1, 5), 3))
            for start in range(machine.standings):
                bits, last = run_slowly(machine, text, start)
                self.assertEqual((len(bits), last), grown_run(machine, grown, start=start))
            bits, last = run_slowly(machine, text)
            self.assertEqual((len(bits), last), grown_run(machine, grown))
            for _ in range(8):
                start = source.randint(0, len(bits))
                end = source.randint(start, len(bits))
                self.assertEqual(bits[start:end], grown_bits(machine, grown, start, end))
            self.assertEqual(bits, grown_bits(machine, grown, 0, len(bits)))
            lot = Lot(alphabet, random_rows(source, len(alphabet), source.randint(1, 5)))
            self.assertIs(text in lot, grown_in(grown, lot))
            self.assertEqual(tuple(text.count(letter) for letter in alphabet), grown_letters(grown))

    def test_told_by_hand(self):
        grown = Grown("ab", SMALL)
        self.assertEqual((4, 0), grown_run(PLAIN, grown))
        self.assertEqual((4, 0), grown_run(EXAMPLE_MACHINE, grown))
        self.assertEqual("0101", grown_bits(EXAMPLE_MACHINE, grown, 0, 4))
        self.assertEqual((5, 0), grown_run(machine=EXAMPLE_MACHINE, grown=grown, start=1))
        self.assertEqual((2, 2), grown_letters(grown))
        self.assertEqual((1, 0, 0), grown_letters(Grown("abc", ["b", "a"])))

    def test_standings_that_are_not_reached(self):
        machine = Machine("a", [[(0, "1")], [(0, "0000")], [(1, "")]])
        self.assertEqual([(3, 0), (6, 0), (5, 0)], [grown_run(machine, grown_of("a", "aaa"), start=start)
                                                    for start in range(3)])

    def test_on_endless_texts(self):
        source = random.Random(610)
        for machine in random_machines(611, 60, standings=5, longest=3):
            endless = random_round(source, machine.alphabet, 6)
            for length in (1, 17, 10 ** 12, 10 ** 30):
                self.assertEqual(bits_on(machine, endless, length), grown_run(machine, beginning_of(endless, length))[0])

    def test_long_texts(self):
        grown = Grown("ab", LONG)
        self.assertEqual((2 ** 102, 0), grown_run(PLAIN, grown))
        self.assertEqual((2 ** 101, 2 ** 101), grown_letters(grown))
        self.assertEqual(("01" * 1001)[:2000], grown_bits(PLAIN, grown, 10 ** 30, 10 ** 30 + 2000))
        machine = Machine("ab", [[((k + 1) % 60, "1" if k == 59 else ""), ((k + 1) % 60, "0" * (k % 3 == 1))]
                                 for k in range(60)])
        bits, last = grown_run(machine, grown)
        self.assertEqual(2 ** 102 % 60, last)
        one = run_slowly(machine, "ab" * 30)[0]
        self.assertEqual(len(one) * (2 ** 102 // 60) + len(run_slowly(machine, "ab" * (2 ** 102 % 60 // 2))[0]), bits)
        start = len(one) * 10 ** 28
        self.assertEqual((one * 400)[:2000], grown_bits(machine, grown, start, start + 2000))
        self.assertEqual((one * 400)[3:1777], grown_bits(machine, grown, start + 3, start + 1777))

    def test_bits_far_apart(self):
        # Only every 10 ** 28th letter writes a bit, so that 2,000 bits stand over nearly all of the text.
        stretch = powered(grown_of("ab", "a"), 10 ** 27) + grown_of("ab", "b")
        grown = powered(stretch, 3000)
        machine = Machine("ab", [[(0, ""), (1, "0")], [(1, ""), (0, "1")]])
        self.assertEqual((3000, 0), grown_run(machine, grown))
        self.assertEqual(("01" * 1500)[501:2501], grown_bits(machine, grown, 501, 2501))
        self.assertEqual("01" * 1000, grown_bits(machine, grown, 1000, 3000))
        self.assertEqual((3000 * 10 ** 27, 3000), grown_letters(grown))

    def test_no_bits_at_all(self):
        machine = Machine("ab", [[(0, ""), (0, "")]])
        grown = Grown("ab", LONG)
        self.assertEqual((0, 0), grown_run(machine, grown))
        self.assertEqual("", grown_bits(machine, grown, 0, 0))
        self.assertEqual((1,), raised(BadIndex, grown_bits, machine, grown, 0, 1))

    def test_indexes(self):
        grown = Grown("ab", SMALL)
        for start, end, wrong in ((-1, 2, -1), (5, 5, 5), (5, 2, 5), (-3, -9, -3), (0, 5, 5), (2, 1, 1), (4, 5, 5),
                                  (4, 3, 3), (0, -1, -1), (3, -10 ** 40, -10 ** 40), (10 ** 40, 10 ** 40, 10 ** 40)):
            self.assertEqual((wrong,), raised(BadIndex, grown_bits, PLAIN, grown, start, end))
        for start in range(5):
            for end in range(start, 5):
                self.assertEqual("0101"[start:end], grown_bits(PLAIN, grown, start, end))
        wide = Machine("ab", [[(0, "0" * 20 + "1" * 20), (0, "10" * 20)]])
        self.assertEqual("11" + "10" * 3, grown_bits(end=46, start=38, grown=grown, machine=wide))

    def test_lots(self):
        grown = Grown("ab", LONG)
        for lot, told in ((lot_counting("ab", "a", 2 ** 101 % 12, 12), True), (lot_counting("ab", "a", 1, 2), False),
                          (lot_containing("ab", "abababababab"), True), (lot_containing("ab", "bb"), False),
                          (~lot_containing("ab", "aa"), True), (lot_of("ab", ["ab"]), False),
                          (Lot("ab", [(False, (0, 0))]), False), (Lot("ab", [(True, (0, 0))]), True)):
            self.assertIs(told, grown_in(grown, lot))
        self.assertIs(True, grown_in(lot=lot_of("ab", ["b"]), grown=Grown("ab", ["b"])))

    def test_machines_beyond_the_bounds(self):
        machine = Machine("ab", late_rules(4)) >> Machine("01", [[((k + 1) % 40, "0"), (k, "1")] for k in range(40)])
        self.assertGreater(machine.standings, 600)
        bits, last = grown_run(machine, Grown("ab", LONG))
        self.assertEqual(2 ** 102 - 4, bits)
        self.assertEqual(machine.last_after("ab" * 20 * 60 + "ab" * (2 ** 101 % 1200)), last)
        lot = lot_counting("ab", "a", 5, 12) & lot_counting("ab", "b", 7, 11) & lot_counting("ab", "a", 0, 7)
        self.assertEqual(924, len(lot.rows))
        text = grown_of("ab", "ab" * 1000)
        self.assertIs("ab" * 1000 in lot, grown_in(text, lot))

    def test_alphabets_differ_before_all(self):
        grown = Grown("ab", SMALL)
        abc = Machine.plain("abc")
        self.assertEqual(("abc", "ab"), raised(AlphabetsDiffer, grown_run, abc, grown))
        self.assertEqual(("abc", "ab"), raised(AlphabetsDiffer, grown_run, abc, grown, start=0))
        self.assertEqual(("abc", "ab"), raised(AlphabetsDiffer, grown_bits, abc, grown, -5, -7))
        self.assertEqual(("ab", "abc"), raised(AlphabetsDiffer, grown_in, grown, lot_of("abc", [])))

    def test_the_same_question_again(self):
        grown = Grown("ab", LONG)
        for lot in random_lots(612, 10, alphabets=("ab",)):
            self.assertIs(grown_in(grown, lot), grown_in(Grown("ab", tuple(LONG)), lot))
        self.assertEqual(grown_run(EXAMPLE_MACHINE, grown), grown_run(EXAMPLE_MACHINE, grown, start=0))
        self.assertEqual(grown_letters(grown), grown_letters(grown=grown))


if __name__ == "__main__":
    unittest.main()
