"""Point 47."""

import random
import unittest
from math import comb

from outpressed.averages import heaviest, lightest, total_bits
from outpressed.errors import AlphabetsDiffer, BadLetter, BadRank, NotInLot
from outpressed.floors import shared_total
from outpressed.lotcounts import lot_bits, lot_count, lot_heaviest, lot_lightest, rank_in, text_at
from outpressed.lots import Lot, lot_containing, lot_counting, lot_of
from outpressed.machines import Machine
from outpressed.widths import width
from tests.brute import (EXAMPLE, coming_back, least_heaviest, random_lots, random_machines, random_text, run_slowly,
                         texts_of)

NOTHING, ALL = Lot("ab", [(False, (0, 0))]), Lot("ab", [(True, (0, 0))])


class CountsAndRanksTest(unittest.TestCase):
    def test_the_example(self):
        lot = lot_counting("ab", "a", 0, 2)
        self.assertEqual([4, 3, "baa"], [lot_count(lot, 3), rank_in(lot, "bbb"), text_at(lot, 3, 2)])

    def test_by_the_definition(self):
        for lot in random_lots(47, 150):
            for length in range(6):
                texts = [text for text in texts_of(lot.alphabet, length) if text in lot]
                self.assertEqual(len(texts), lot_count(lot, length))
                self.assertEqual(texts, [text_at(lot, length, rank) for rank in range(len(texts))])
                self.assertEqual(list(range(len(texts))), [rank_in(lot, text) for text in texts])
                for rank in (-1, len(texts), len(texts) + 1, -10 ** 40, 10 ** 40):
                    with self.assertRaises(BadRank) as caught:
                        text_at(lot, length, rank)
                    self.assertEqual(rank, caught.exception.rank)

    def test_sixty_letters(self):
        lot = lot_counting("ab", "a", 3, 12)
        many = sum(comb(60, count) for count in range(3, 61, 12))
        self.assertEqual([many, 2 ** 60, 0, 6 ** 60],
                         [lot_count(lot, 60), lot_count(ALL, 60), lot_count(NOTHING, 60),
                          lot_count(lot_containing("abcdef", ""), 60)])
        self.assertEqual("b" * 57 + "aaa", text_at(lot, 60, many - 1))
        self.assertEqual(many - 1, rank_in(lot, "b" * 57 + "aaa"))
        source = random.Random(471)
        for lot in random_lots(472, 40, standings=8):
            many = lot_count(lot, 60)
            ranks = [] if many == 0 else [0, many - 1, source.randrange(many), source.randrange(many)]
            for rank in ranks:
                text = text_at(lot, 60, rank)
                self.assertTrue(len(text) == 60 and text in lot)
                self.assertEqual(rank, rank_in(lot, text))
            with self.assertRaises(BadRank):
                text_at(lot, 60, many)

    def test_ranks_are_in_alphabetical_order(self):
        lot = lot_containing("abc", "ab")
        self.assertEqual(sorted(text_at(lot, 5, rank) for rank in range(lot_count(lot, 5))),
                         [text_at(lot, 5, rank) for rank in range(lot_count(lot, 5))])

    def test_no_letters(self):
        self.assertEqual([1, 0], [lot_count(ALL, 0), lot_count(NOTHING, 0)])
        self.assertEqual([0, ""], [rank_in(ALL, ""), text_at(ALL, 0, 0)])
        for lot, rank in ((ALL, 1), (ALL, -1), (NOTHING, 0)):
            with self.assertRaises(BadRank) as caught:
                text_at(lot, 0, rank)
            self.assertEqual(rank, caught.exception.rank)

    def test_not_in_lot(self):
        for lot, text in ((NOTHING, ""), (NOTHING, "ab"), (lot_counting("ab", "a", 0, 2), "ab"),
                          (lot_of("ab", ["ab"]), "a"), (lot_of("ab", ["ab"]), "b" * 60)):
            with self.assertRaises(NotInLot) as caught:
                rank_in(lot, text)
            self.assertEqual(text, caught.exception.text)

    def test_letters_come_first(self):
        for lot in (ALL, NOTHING):
            for text, index in (("c", 0), ("abAc", 2), ("ab ", 2)):
                with self.assertRaises(BadLetter) as caught:
                    rank_in(lot, text)
                self.assertEqual(index, caught.exception.index)

    def test_one_letter(self):
        lot = lot_counting("a", "a", 2, 5)
        self.assertEqual([0, 0, 1, 0, 0, 0, 0, 1], [lot_count(lot, length) for length in range(8)])
        self.assertEqual([0, "a" * 57], [rank_in(lot, "a" * 57), text_at(lot, 57, 0)])

    def test_by_name_and_again(self):
        lot = lot_containing("ab", "aa")
        first = [lot_count(length=5, lot=lot), rank_in(text="baaab", lot=lot), text_at(rank=4, length=5, lot=lot)]
        lot_count(ALL, 7)
        self.assertEqual(first, [lot_count(lot, 5), rank_in(lot, "baaab"), text_at(lot, 5, 4)])


class BitsTest(unittest.TestCase):
    def check(self, machine, lot, length):
        told = [(len(run_slowly(machine, text)[0]), text) for text in texts_of(machine.alphabet, length) if text in lot]
        self.assertEqual(sum(bits for bits, _ in told), lot_bits(machine, lot, length))
        self.assertEqual(min(told, default=None), lot_lightest(machine, lot, length))
        self.assertEqual(min(told, key=lambda pair: (-pair[0], pair[1]), default=None),
                         lot_heaviest(machine, lot, length))
        return len(told)

    def test_by_the_definition(self):
        found = []
        for alphabet in ("a", "ab", "abc"):
            machines = random_machines(473, 40, alphabets=(alphabet,), standings=4, longest=3)
            for machine, lot in zip(machines, random_lots(474, 40, alphabets=(alphabet,))):
                found += [self.check(machine, lot, length) for length in range(6)]
        self.assertGreater(min(found.count(0), len(found) - found.count(0)), 200)

    def test_all_texts_and_no_texts(self):
        for machine in random_machines(475, 30, alphabets=("ab",), standings=5, longest=4):
            for length in (0, 1, 9, 60):
                self.assertEqual([total_bits(machine, length), lightest(machine, length), heaviest(machine, length)],
                                 [lot_bits(machine, ALL, length), lot_lightest(machine, ALL, length),
                                  lot_heaviest(machine, ALL, length)])
                self.assertEqual([0, None, None], [lot_bits(machine, NOTHING, length),
                                                   lot_lightest(machine, NOTHING, length),
                                                   lot_heaviest(machine, NOTHING, length)])

    def test_no_letters(self):
        machine = Machine("ab", EXAMPLE)
        self.assertEqual([0, (0, ""), (0, "")], [lot_bits(machine, ALL, 0), lot_lightest(machine, ALL, 0),
                                                 lot_heaviest(machine, ALL, 0)])
        lot = lot_of("ab", ["a"])
        self.assertEqual([0, None, None], [lot_bits(machine, lot, 0), lot_lightest(machine, lot, 0),
                                           lot_heaviest(machine, lot, 0)])

    def test_sixty_letters(self):
        machine = Machine("ab", [[(0, "0"), (0, "111")]])
        lot = lot_counting("ab", "b", 7, 12)
        counts = [7, 19, 31, 43, 55]
        self.assertEqual(sum(comb(60, count) * (60 + 2 * count) for count in counts), lot_bits(machine, lot, 60))
        self.assertEqual((60 + 14, "a" * 53 + "b" * 7), lot_lightest(machine, lot, 60))
        self.assertEqual((60 + 110, "aaaaa" + "b" * 55), lot_heaviest(machine, lot, 60))

    def test_many_standings(self):
        source = random.Random(476)
        machine = Machine("ab", [[(source.randrange(60), random_text(source, "01", source.randint(0, 40)))
                                  for _ in "ab"] for _ in range(60)])
        lot = Lot("ab", [(source.random() < 0.3, [source.randrange(60) for _ in "ab"]) for _ in range(60)])
        least, most = lot_lightest(machine, lot, 60), lot_heaviest(machine, lot, 60)
        for bits, text in (least, most):
            self.assertTrue(text in lot and len(text) == 60)
            self.assertEqual(bits, len(machine(text)))
        many, total = lot_count(lot, 60), lot_bits(machine, lot, 60)
        self.assertTrue(many * least[0] <= total <= many * most[0])
        self.check(machine, lot, 8)

    def test_standings_that_are_not_reached(self):
        machine = Machine("ab", [[(0, "0"), (0, "1")], [(1, ""), (1, "")]])
        self.assertEqual([8, (2, "aa")], [lot_bits(machine, ALL, 2), lot_lightest(machine, ALL, 2)])

    def test_no_machine_presses_the_texts_of_any_lot(self):
        for alphabet in ("ab", "abc"):
            lots = random_lots(477, 30, alphabets=(alphabet,), standings=5) + [lot_containing(alphabet, "ab")]
            for machine in coming_back(478, 20, alphabets=(alphabet,), standings=4, longest=3):
                reached = len(machine.reached)
                for lot in lots:
                    for length in (0, 3, 8):
                        many = lot_count(lot, length)
                        self.assertGreaterEqual(lot_bits(machine, lot, length), shared_total(many, reached))
                        if many > 0:
                            self.assertGreaterEqual(lot_heaviest(machine, lot, length)[0],
                                                    least_heaviest(reached, many))
                            self.assertLess(rank_in(lot, text_at(lot, length, many - 1)), 2 ** width(many))

    def test_alphabets_differ(self):
        for function in (lot_bits, lot_lightest, lot_heaviest):
            for one, two in (("ab", "abc"), ("abc", "ab"), ("01", "ab")):
                with self.assertRaises(AlphabetsDiffer) as caught:
                    function(Machine.plain(one), lot_containing(two, ""), 3)
                self.assertEqual((one, two), (caught.exception.one, caught.exception.two))

    def test_by_name_and_again(self):
        machine, lot = Machine("ab", EXAMPLE), lot_containing("ab", "ab")
        for function in (lot_bits, lot_lightest, lot_heaviest):
            first = function(length=6, lot=lot, machine=machine)
            function(Machine.plain("a"), lot_of("a", ["a"]), 1)
            self.assertEqual(first, function(machine, lot, 6))


if __name__ == "__main__":
    unittest.main()
