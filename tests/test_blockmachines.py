"""Point 19."""

import unittest

from outpressed.blockmachines import block_machine
from outpressed.blocks import press
from outpressed.errors import BadAlphabet, TooLarge
from outpressed.machines import Machine
from tests.brute import texts_of, texts_up_to


class BlockMachineTest(unittest.TestCase):
    def test_by_the_definition(self):
        for alphabet, length in (("a", 1), ("a", 2), ("a", 7), ("ab", 1), ("ab", 2), ("ab", 3), ("ab", 5),
                                 ("abc", 3), ("xyz", 4), ("0123", 3), ("abcdef", 2)):
            texts = texts_up_to(alphabet, length - 1)
            rules = []
            for text in texts:
                rules.append([(texts.index(text + letter), "") if text + letter in texts
                              else (0, press(alphabet, text + letter)) for letter in alphabet])
            self.assertEqual(Machine(alphabet, rules), block_machine(alphabet, length))

    def test_what_it_writes(self):
        machine = block_machine("ab", 3)
        for one in texts_of("ab", 3):
            for two in texts_of("ab", 3):
                for rest in texts_up_to("ab", 2):
                    self.assertEqual(press("ab", one) + press("ab", two), machine(one + two + rest))

    def test_one_letter_a_block(self):
        self.assertEqual(tuple((0, press("abcd", letter)) for letter in "abcd"), block_machine("abcd", 1).rules[0])

    def test_the_bound(self):
        self.assertEqual(60, block_machine("a", 60).standings)
        self.assertEqual(31, block_machine("ab", 5).standings)
        self.assertEqual(40, block_machine("abc", 4).standings)
        self.assertEqual(43, block_machine("abcdef", 3).standings)
        for alphabet, length, standings in (("a", 61, 61), ("a", 100, 100), ("ab", 6, 63), ("abc", 5, 121),
                                            ("abcd", 4, 85), ("abcdef", 4, 259), ("ab", 100, 2 ** 100 - 1),
                                            ("abcdef", 100, (6 ** 100 - 1) // 5)):
            with self.assertRaises(TooLarge) as caught:
                block_machine(alphabet, length)
            self.assertEqual(standings, caught.exception.number)

    def test_the_alphabet_comes_first(self):
        with self.assertRaises(BadAlphabet) as caught:
            block_machine("ba", 100)
        self.assertEqual("ba", caught.exception.alphabet)

    def test_by_name(self):
        self.assertEqual(block_machine("ab", 2), block_machine(length=2, alphabet="ab"))


if __name__ == "__main__":
    unittest.main()
