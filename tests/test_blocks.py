"""Points 10, 12 and 13."""

import random
import unittest

from outpressed.blocks import press, pressed_length
from outpressed.cuts import cut_of
from outpressed.errors import BadAlphabet, BadLetter
from outpressed.widths import number_bits, width
from tests.brute import texts_up_to


def press_slowly(alphabet, text):
    """The block by points 10 and 12: with the free places written out."""
    cut = cut_of(alphabet, text)
    bits = ""
    for k, row in enumerate(cut.rows, start=1):
        taken = cut.rows[:k - 1]
        free = [(number, letter) for number in range(k) for letter in alphabet if (number, letter) not in taken]
        assert len(free) == k * len(alphabet) - (k - 1)
        bits += number_bits(1 + free.index(row), len(free) + 1)
    bits += number_bits(0, (cut.many + 1) * len(alphabet) - cut.many + 1)
    return bits + number_bits(cut.tail, cut.many + 1)


def length_slowly(size, count):
    return sum(width(k * size - (k - 1) + 1) for k in range(1, count + 2)) + width(count + 1)


class PressTest(unittest.TestCase):
    def test_the_example(self):
        self.assertEqual("0101010101000000", press("ab", "abababb"))
        self.assertEqual("01" + "01" + "010" + "101" + "000" + "000", press("ab", "abababb"))

    def test_short_texts_by_the_definition(self):
        for alphabet, length in (("a", 40), ("ab", 9), ("xyz", 6), ("012345", 3)):
            for text in texts_up_to(alphabet, length):
                self.assertEqual(press_slowly(alphabet, text), press(alphabet, text))

    def test_long_texts_by_the_definition(self):
        source = random.Random(12)
        for alphabet in ("0", "ab", "abcdef"):
            text = "".join(source.choice(alphabet) for _ in range(400))
            self.assertEqual(press_slowly(alphabet, text), press(alphabet, text))

    def test_no_block_is_the_beginning_of_another_one(self):
        for alphabet, length in (("a", 60), ("ab", 10), ("abc", 6)):
            blocks = sorted(press(alphabet, text) for text in texts_up_to(alphabet, length))
            for one, two in zip(blocks, blocks[1:]):
                self.assertFalse(two.startswith(one))

    def test_the_empty_text(self):
        # One option more than the free places, and the tail is the only one.
        self.assertEqual("0", press("a", ""))
        self.assertEqual("00", press("ab", ""))
        self.assertEqual("000", press("abcdef", ""))

    def test_errors_in_order(self):
        with self.assertRaises(BadAlphabet) as caught:
            press("b a", "x")
        self.assertEqual("b a", caught.exception.alphabet)
        with self.assertRaises(BadLetter) as caught:
            press("ab", "abba c")
        self.assertEqual(4, caught.exception.index)

    def test_by_name_and_again(self):
        first = press(text="abab", alphabet="ab")
        press("abc", "cab")
        self.assertEqual(first, press("ab", "abab"))


class PressedLengthTest(unittest.TestCase):
    def test_it_is_the_length_of_the_block(self):
        for alphabet, length in (("a", 60), ("ab", 9), ("abc", 6), ("abcdef", 4)):
            for text in texts_up_to(alphabet, length):
                self.assertEqual(len(press(alphabet, text)),
                                 pressed_length(len(alphabet), cut_of(alphabet, text).many))

    def test_by_the_definition(self):
        for size in range(1, 7):
            for count in list(range(200)) + [1000, 1023, 1024, 4096]:
                self.assertEqual(length_slowly(size, count), pressed_length(size, count), (size, count))

    def test_great_counts_by_their_steps(self):
        for size in range(1, 7):
            for count in (10 ** 9, 2 ** 64 - 2, 2 ** 64 - 1, 2 ** 64, 10 ** 29 + 17, 10 ** 30 - 1):
                step = width((count + 2) * (size - 1) + 2) + width(count + 2) - width(count + 1)
                self.assertEqual(step, pressed_length(size, count + 1) - pressed_length(size, count))

    def test_great_counts(self):
        self.assertEqual(10 ** 30 + 1 + 100, pressed_length(1, 10 ** 30))
        # Over two letters the widths are those of the numbers 3 to 2 ** k + 1 and a few more.
        for power in (3, 10, 60, 99):
            count = 2 ** power - 2
            total = sum(bits * 2 ** (bits - 1) for bits in range(2, power + 1)) + power + 1
            self.assertEqual(total + power, pressed_length(size=2, count=count))


if __name__ == "__main__":
    unittest.main()
