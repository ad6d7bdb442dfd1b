"""Point 48."""

import random
import unittest

from outpressed.errors import AlphabetsDiffer, TooLarge
from outpressed.lots import Lot, lot_containing, lot_counting, lot_of
from outpressed.lotwriting import texts_writing, written_lot
from outpressed.machines import Machine
from tests.brute import (EXAMPLE, random_lots, random_machines, random_rows, random_rules, random_text, run_slowly,
                         texts_up_to)

NO_BITS, ALL_BITS = Lot("01", [(False, (0, 0))]), Lot("01", [(True, (0, 0))])


def everything(alphabet):
    return lot_containing(alphabet, "")


def written_slowly(machine, lot, most):
    """All strings of at most so many bits that are written for texts of the lot."""
    found, todo = {(0, 0, "")}, [(0, 0, "")]
    while todo:
        standing, place, bits = todo.pop()
        for (following, word), behind in zip(machine.rules[standing], lot.rows[place][1]):
            state = (following, behind, bits + word)
            if len(state[2]) <= most and state not in found:
                found.add(state)
                todo.append(state)
    return {bits for _, place, bits in found if lot.rows[place][0]}


def sets_slowly(machine, lot, most):
    """All different sets S(y), by triples with the rest itself, up to so many of them; the lot that they tell."""
    def with_silent(triples):
        triples, todo = set(triples), list(triples)
        while todo:
            standing, place, rest = todo.pop()
            for (following, word), behind in zip(machine.rules[standing], lot.rows[place][1]):
                if rest == "" and word == "" and (following, behind, "") not in triples:
                    triples.add((following, behind, ""))
                    todo.append((following, behind, ""))
        return frozenset(triples)

    sets = {with_silent({(0, 0, "")}): 0}
    rows = []
    while len(rows) < len(sets) <= most:
        current, nexts = list(sets)[len(rows)], []
        for bit in "01":
            later = {(standing, place, rest[1:]) for standing, place, rest in current if rest[:1] == bit}
            for standing, place, rest in current:
                for (following, word), behind in zip(machine.rules[standing], lot.rows[place][1]):
                    if rest == "" and word[:1] == bit:
                        later.add((following, behind, word[1:]))
            nexts.append(sets.setdefault(with_silent(later), len(sets)))
        rows.append((any(rest == "" and lot.rows[place][0] for _, place, rest in current), nexts))
    return len(sets), rows


def chain(bits):
    """A machine over a that writes so many bits, at most 40 for each letter, and then nothing more."""
    words = ["0" * 40] * (bits // 40) + ["0" * (bits - bits // 40 * 40)]
    return Machine("a", [[(k + 1, word)] for k, word in enumerate(words)] + [[(len(words), "")]])


class TextsWritingTest(unittest.TestCase):
    def test_the_example(self):
        texts = texts_writing(Machine("ab", EXAMPLE), lot_of("01", ["1"]))
        self.assertIsInstance(texts, Lot)
        self.assertEqual([True, True, False], ["b" in texts, "ba" in texts, "bb" in texts])

    def test_by_the_definition(self):
        lots = random_lots(48, 120, alphabets=("01",), standings=5)
        for machine, bit_lot in zip(random_machines(481, 120, standings=4, longest=4), lots):
            texts = texts_writing(machine, bit_lot)
            self.assertEqual(machine.alphabet, texts.alphabet)
            for text in texts_up_to(machine.alphabet, 6):
                self.assertIs(run_slowly(machine, text)[0] in bit_lot, text in texts)

    def test_all_bits_and_no_bits(self):
        for machine in random_machines(482, 30):
            self.assertEqual(everything(machine.alphabet), texts_writing(machine, ALL_BITS))
            self.assertEqual(~everything(machine.alphabet), texts_writing(machine, NO_BITS))

    def test_machines_in_a_row(self):
        ones = random_machines(483, 40, standings=3, longest=3)
        twos = random_machines(484, 40, alphabets=("01",), standings=3, longest=3)
        for one, two, bit_lot in zip(ones, twos, random_lots(485, 40, alphabets=("01",))):
            self.assertEqual(texts_writing(one, texts_writing(two, bit_lot)), texts_writing(one >> two, bit_lot))

    def test_many_standings(self):
        source = random.Random(486)
        machine = Machine("abcdef", random_rules(source, 6, 60, 40))
        bit_lot = Lot("01", random_rows(source, 2, 60))
        texts = texts_writing(machine, bit_lot)
        self.assertGreater(len(texts.rows), 1000)
        for _ in range(100):
            text = random_text(source, "abcdef", 30)
            self.assertIs(run_slowly(machine, text)[0] in Lot("01", bit_lot.rows), text in texts)

    def test_alphabets_differ(self):
        for alphabet in ("ab", "0", "012", "12"):
            with self.assertRaises(AlphabetsDiffer) as caught:
                texts_writing(Machine.plain("ab"), everything(alphabet))
            self.assertEqual(("01", alphabet), (caught.exception.one, caught.exception.two))

    def test_by_name_and_again(self):
        machine, bit_lot = Machine("ab", EXAMPLE), lot_containing("01", "10")
        first = texts_writing(bit_lot=bit_lot, machine=machine)
        texts_writing(Machine.plain("a"), ALL_BITS)
        self.assertEqual(first, texts_writing(machine, bit_lot))


class WrittenLotTest(unittest.TestCase):
    def test_the_example(self):
        bits = written_lot(Machine("ab", EXAMPLE), lot_of("ab", ["aa", "b"]))
        self.assertIsInstance(bits, Lot)
        self.assertEqual([True, True, False], ["00" in bits, "1" in bits, "0" in bits])
        self.assertEqual(lot_of("01", ["00", "1"]), bits)

    def test_by_the_definition(self):
        within = 0
        for machine, lot in self.some():
            told = self.written(machine, lot)
            if told is not None:
                within += 1
                self.assertEqual("01", told.alphabet)
                written = written_slowly(machine, lot, 7)
                for bits in texts_up_to("01", 7):
                    self.assertIs(bits in written, bits in told)
        self.assertGreater(within, 200)

    def some(self):
        for alphabet in ("a", "ab", "abc"):
            machines = random_machines(487, 90, alphabets=(alphabet,), standings=4, longest=4)
            yield from zip(machines, random_lots(488, 90, alphabets=(alphabet,)))

    def written(self, machine, lot):
        try:
            return written_lot(machine, lot)
        except TooLarge as error:
            self.assertEqual(1000, error.number)
            return None

    def test_by_all_sets(self):
        for machine, lot in self.some():
            many, rows = sets_slowly(machine, lot, 1000)
            if many > 1000:
                self.assertIsNone(self.written(machine, lot))
            else:
                self.assertEqual(Lot("01", rows), self.written(machine, lot))

    def test_no_text_the_empty_text_and_all_texts(self):
        machine = Machine("ab", EXAMPLE)
        self.assertEqual(NO_BITS, written_lot(machine, ~everything("ab")))
        self.assertEqual(lot_of("01", [""]), written_lot(machine, lot_of("ab", [""])))
        self.assertEqual(ALL_BITS, written_lot(Machine.plain("ab"), everything("ab")))
        self.assertEqual(lot_of("01", [""]), written_lot(Machine("a", [[(0, "")]]), everything("a")))
        self.assertEqual(NO_BITS, written_lot(Machine("a", [[(0, "")]]), ~everything("a")))

    def test_silent_ways(self):
        # The bits may be written before and behind letters for which nothing is written.
        machine = Machine("ab", [[(1, ""), (0, "0")], [(2, ""), (1, "")], [(0, "1"), (2, "")]])
        self.assertEqual(lot_of("01", ["", "1"]), written_lot(machine, lot_of("ab", ["aa", "aab", "aaa", "abbaba"])))

    def test_ends_of_words_of_other_lengths(self):
        machine = Machine("abc", [[(0, "0"), (0, "00"), (0, "0001")]])
        lot = lot_of("abc", ["ab", "ac", "cb", "bbb"])
        self.assertEqual(lot_of("01", ["000", "00001", "000100", "000000"]), written_lot(machine, lot))

    def test_just_within_and_beyond(self):
        # One set for each beginning of what is written, and the empty set for all other strings.
        for bits in (0, 1, 39, 40, 996, 997, 998):
            told = written_lot(chain(bits), everything("a"))
            self.assertEqual(bits + 2, sets_slowly(chain(bits), everything("a"), 1000)[0])
            self.assertTrue("" in told and "0" * bits in told and "0" * (bits + 1) not in told and "1" not in told)
        for bits in (999, 1000, 1001, 2000):
            with self.assertRaises(TooLarge) as caught:
                written_lot(chain(bits), everything("a"))
            self.assertEqual(1000, caught.exception.number)

    def test_just_within_and_beyond_without_the_empty_set(self):
        # Plain bits of a lot: its standings are the sets.
        plain = Machine.plain("01")
        within = written_lot(chain(998), everything("a"))
        self.assertEqual(1000, len(within.rows))
        self.assertEqual(within, written_lot(plain, within))
        beyond = texts_writing(Machine("01", [[(1, ""), (1, "")], [(1, "0"), (1, "1")]]), within)
        self.assertEqual(1001, len(beyond.rows))
        with self.assertRaises(TooLarge) as caught:
            written_lot(plain, beyond)
        self.assertEqual(1000, caught.exception.number)

    def test_sets_count_that_lead_nowhere(self):
        # No text is accepted, but the strings still have different sets.
        self.assertEqual(NO_BITS, written_lot(chain(998), ~everything("a")))
        with self.assertRaises(TooLarge):
            written_lot(chain(999), ~everything("a"))

    def test_the_lot_is_told_by_its_least_form(self):
        # 24 standings that are one: the sets do not become more by them.
        rows = [(True, [(k + 1) % 24]) for k in range(24)]
        self.assertEqual(written_lot(chain(998), everything("a")), written_lot(chain(998), Lot("a", rows)))

    def test_machines_in_a_row(self):
        ones = random_machines(489, 150, standings=3, longest=2)
        twos = random_machines(490, 150, alphabets=("01",), standings=3, longest=2)
        compared = 0
        for one, two in zip(ones, twos):
            lot = random_lots(one.standings, 1, alphabets=(one.alphabet,))[0]
            whole, first = self.written(one >> two, lot), self.written(one, lot)
            second = None if first is None else self.written(two, first)
            if whole is not None and second is not None:
                compared += 1
                self.assertEqual(second, whole)
        self.assertGreater(compared, 100)

    def test_a_lot_is_part_of_the_texts_that_write_into_what_is_written(self):
        for machine, lot in self.some():
            told = self.written(machine, lot)
            if told is not None:
                texts = texts_writing(machine, told)
                self.assertEqual(~everything(machine.alphabet), lot - texts)
                self.assertEqual(told, written_lot(machine, texts))

    def test_many_places_with_one_rest(self):
        source = random.Random(491)
        machine = Machine("ab", [[(source.randrange(60), "0" * source.randint(0, 40)) for _ in "ab"]
                                 for _ in range(60)])
        lot = Lot("ab", random_rows(source, 2, 60))
        told = self.written(machine, lot)
        self.assertIsNotNone(told)
        for _ in range(100):
            text = random_text(source, "ab", source.randint(0, 15))
            if text in lot:
                self.assertIn(machine(text), told)

    def test_long_words(self):
        one = Machine("a", [[(1, "01" * 20)], [(1, "")]])
        long = Machine("01", [[(0, "0" * 12), (0, "1" * 12)]])
        told = written_lot(one >> long, lot_counting("a", "a", 0, 2))
        self.assertEqual(482, len(told.rows))
        for bits in ("", "0" * 12, "0" * 12 + "1" * 12, "1"):
            self.assertIs(bits == "", bits in told)

    def test_alphabets_differ(self):
        for one, two in (("ab", "abc"), ("abc", "ab"), ("ab", "01")):
            with self.assertRaises(AlphabetsDiffer) as caught:
                written_lot(Machine.plain(one), everything(two))
            self.assertEqual((one, two), (caught.exception.one, caught.exception.two))
        with self.assertRaises(AlphabetsDiffer):
            written_lot(chain(2000), everything("b"))

    def test_by_name_and_again(self):
        machine, lot = Machine("ab", EXAMPLE), lot_containing("ab", "ab")
        first = written_lot(lot=lot, machine=machine)
        written_lot(Machine.plain("a"), everything("a"))
        self.assertEqual(first, written_lot(machine, lot))


if __name__ == "__main__":
    unittest.main()
