"""Point 39."""

import random
import unittest
from itertools import product

from outpressed.errors import BadAlphabet, BadLetter
from outpressed.instants import is_instant
from outpressed.machines import Machine
from outpressed.readbacks import comes_back
from outpressed.rivals import best_one
from tests.brute import texts_up_to


def fewest_bits(counts):
    """The fewest bits by the sum of 1 / 2 ** n over all words, which is at most 1 if the texts come back."""
    return min(sum(count * length for count, length in zip(counts, lengths))
               for lengths in product(range(1, 7), repeat=len(counts))
               if sum(2 ** (6 - length) for length in lengths) <= 2 ** 6)


class BestOneTest(unittest.TestCase):
    def check(self, alphabet, text, fewest):
        machine = best_one(alphabet, text)
        self.assertIsInstance(machine, Machine)
        self.assertEqual((alphabet, 1), (machine.alphabet, machine.standings))
        self.assertTrue(comes_back(machine).holds)
        self.assertLessEqual(max(len(word) for _, word in machine.rules[0]), 6)
        self.assertEqual(fewest, len(machine(text)), (alphabet, text))

    def test_the_example(self):
        self.check("abc", "aabac", 7)

    def test_by_all_lengths_of_words(self):
        source = random.Random(39)
        for size in range(2, 7):
            alphabet = "abcdef"[:size]
            for _ in range(8 if size < 6 else 3):
                counts = [source.choice([0, 0, 1, 2, 3, 5, 8, 13, 30]) for _ in alphabet]
                letters = [letter for letter, count in zip(alphabet, counts) for _ in range(count)]
                source.shuffle(letters)
                self.check(alphabet, "".join(letters), fewest_bits(counts))

    def test_by_all_machines_with_short_words(self):
        words = [word for word in texts_up_to("01", 3) if word]
        sure = [machine for row in product(words, repeat=3)
                for machine in [Machine("abc", [[(0, word) for word in row]])] if comes_back(machine).holds]
        for text in ("", "a", "abc", "aab", "cccb", "abcabca", "bbbbbca"):
            self.check("abc", text, min(len(machine(text)) for machine in sure))

    def test_counts_that_make_long_words(self):
        counts = [1, 1, 2, 4, 8, 16]
        self.check("abcdef", "".join(letter * count for letter, count in zip("abcdef", counts)), fewest_bits(counts))

    def test_letters_that_are_as_frequent_as_one_another(self):
        for size, bits in ((2, 2), (3, 5), (4, 8), (5, 12), (6, 16)):
            self.assertEqual(bits * 5, fewest_bits([5] * size))
            self.check("abcdef"[:size], "abcdef"[:size] * 5, bits * 5)
        for counts in ([3, 4, 5, 6, 7, 8], [1, 1, 1, 1, 4, 4], [5, 5, 5, 9, 9], [2, 3, 3, 4]):
            letters = "abcdef"[:len(counts)]
            self.check(letters, "".join(letter * count for letter, count in zip(letters, counts)), fewest_bits(counts))

    def test_letters_that_the_text_does_not_have(self):
        self.check("ab", "aaaa", 4)
        self.check("ab", "bbb", 3)
        self.check("abcdef", "c" * 400, 400)
        self.check("abcdef", "cf" * 200, 600)
        self.check("abc", "aab", 4)

    def test_the_empty_text(self):
        for size in range(1, 7):
            self.check("abcdef"[:size], "", 0)

    def test_one_letter(self):
        self.check("7", "7777777", 7)
        self.check("7", "", 0)

    def test_no_word_begins_another_one(self):
        for text in texts_up_to("abcd", 4):
            self.assertTrue(is_instant(best_one("abcd", text)))

    def test_errors_in_order(self):
        with self.assertRaises(BadAlphabet) as caught:
            best_one("aa", "b")
        self.assertEqual("aa", caught.exception.alphabet)
        with self.assertRaises(BadLetter) as caught:
            best_one("ab", "abbca")
        self.assertEqual(3, caught.exception.index)

    def test_by_name_and_again(self):
        first = best_one(text="aabac", alphabet="abc")
        best_one("ab", "b")
        self.assertEqual(first, best_one("abc", "aabac"))


if __name__ == "__main__":
    unittest.main()
