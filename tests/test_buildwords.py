"""Point 53: what a build writes."""

import random
import unittest

from outpressed.blocks import press
from outpressed.builds import Build
from outpressed.buildwords import words_of
from outpressed.errors import BadLetter
from outpressed.machines import Machine
from tests.brute import are_tuples, raised, random_build, random_text, run_slowly, texts_up_to, words_slowly


def told(alphabet, build, text):
    return words_of(Build(alphabet, build), text)


class WordsTest(unittest.TestCase):
    def check(self, alphabet, build, text):
        words = told(alphabet, build, text)
        self.assertEqual(words_slowly(build, alphabet, text), list(words), (alphabet, build, text))
        self.assertTrue(isinstance(words, tuple) and are_tuples(words))

    def test_by_the_definition(self):
        source = random.Random(53)
        for _ in range(600):
            alphabet = source.choice(["a", "ab", "ab", "abc", "019xyz"])
            build = random_build(source, alphabet, source.randint(0, 4))
            for _ in range(4):
                self.check(alphabet, build, random_text(source, alphabet, source.randint(0, 14)))

    def test_each_step_alone(self):
        for alphabet in ("a", "ab", "abc"):
            for text in texts_up_to(alphabet, 4):
                self.assertEqual(run_slowly(Machine.plain(alphabet), text)[0], "".join(told(alphabet, "plain", text)))
                for step in ("plain", "blocks(1)", "blocks(2)", "blocks(3)", "late(plain)", "late(late(plain))",
                             "turns(plain)", "turns(plain,late(plain),blocks(2))",
                             f"after({','.join(['late(plain)'] * len(alphabet))})",
                             f"code({','.join(['-', '01', '111'][:len(alphabet)])})"):
                    self.check(alphabet, step, text)

    def test_told_by_hand(self):
        self.assertEqual(("", "0", "11"), told("ab", "late(plain)>code(0,11)", "aba"))
        self.assertEqual(("0", "1", "0", "1"), told("ab", "after(code(0,1),code(1,0))", "abba"))
        self.assertEqual(("0", "1", "1", "10"), told("abc", "turns(code(0,1,1),code(00,1,10))", "abbc"))
        self.assertEqual(("0", "0", "0"), told("a", "plain", "aaa"))
        self.assertEqual(("00", "01", "10"), told("abc", "plain", "abc"))
        self.assertEqual(("000", "100", "101"), told("abcdef", "plain", "aef"))
        self.assertEqual(("", "", "", ""), told("ab", "code(-,-)", "abab"))
        self.assertEqual(("", "", ""), told("ab", "late(late(late(plain)))", "abb"))
        self.assertEqual(("", "", "", "0", "1"), told("ab", "late(late(late(plain)))", "abbbb"))

    def test_the_first_letter_of_after(self):
        # The first letter goes to the first build, and each build reads its own letters alone.
        self.assertEqual(("0", "1", "111"), told("ab", "after(code(0,1),code(00,111))", "abb"))
        self.assertEqual(("1", "111", "00", "0"), told("ab", "after(code(0,1),code(00,111))", "bbaa"))
        self.assertEqual(("", "0", "0", "", "1"), told("ab", "after(late(plain),late(plain))", "aabbb"))
        self.assertEqual(("", "", "0", "1", "0"), told("ab", "turns(late(plain),late(plain))", "ababb"))

    def test_steps_behind_that_read_no_bits(self):
        # The late step counts bits, not letters, so nothing is taken from it by a letter without bits.
        for build in ("code(-,0)>late(plain)", "code(-,01)>turns(plain,late(plain),code(-,00))",
                      "late(plain)>blocks(2)", "blocks(3)>late(blocks(2))", "code(-,-)>late(plain)",
                      "code(-,1)>after(code(0,10),late(plain))>code(-,11)>turns(plain,code(00,1))"):
            for text in texts_up_to("ab", 6):
                self.check("ab", build, text)
        self.assertEqual(("", "", "", "0"), told("ab", "code(-,0)>late(plain)", "abab"))

    def test_words_of_one_to_twelve_bits(self):
        for many in range(1, 13):
            word = ("01" * 6)[:many]
            self.assertEqual((word, "1", word), told("ab", f"code({word},1)", "aba"))
            self.assertEqual((word.replace("0", "a").replace("1", "0").replace("a", "1"),),
                             told("ab", f"code({word},1)>code(1,0)", "a"))

    def test_blocks_of_all_lengths(self):
        for alphabet in ("a", "ab", "abcdef"):
            for length in range(1, 10):
                text = (alphabet * 20)[:20]
                words = told(alphabet, f"blocks({length})", text)
                self.assertEqual([press(alphabet, text[k + 1 - length:k + 1]) if (k + 1) % length == 0 else ""
                                  for k in range(20)], list(words))
                self.check(alphabet, f"plain>blocks({length})", text)

    def test_the_empty_text(self):
        for build in ("plain", "late(plain)>code(0,11)", "turns(blocks(2),plain)", "blocks(9)"):
            self.assertEqual((), told("ab", build, ""))

    def test_long_texts(self):
        text = "abbabaabbaababba" * 25
        self.check("ab", "turns(plain,late(blocks(3)))>after(plain,late(plain))>blocks(4)", text)
        # Each letter has up to 12 * 12 * 12 bits, so that the last step reads some 58,000 of them.
        build = "code(111111111111,1)>code(0,101010101011)>code(110011001100,0)>turns(plain,code(0,1),late(plain))"
        words = told("ab", build, text[:60])
        self.assertEqual(words_slowly(build, "ab", text[:60]), list(words))
        self.assertGreater(len("".join(words)), 20000)

    def test_beyond_the_bounds(self):
        # A string of bits that the program has returned is a text of the alphabet 01.
        bits = press("abcdef", "abcdefabcdef" * 30)
        self.assertEqual(bits, "".join(told("01", "plain", bits)))
        self.assertEqual(1000 * ("00", "1"), told("01", "code(1,00)", "10" * 1000))

    def test_letters_names_and_again(self):
        build = Build("ab", "late(plain)")
        self.assertEqual((2,), raised(BadLetter, words_of, build, "abc0"))
        self.assertEqual((0,), raised(BadLetter, words_of, build, "0"))
        self.assertEqual(("", "0", "1"), words_of(text="aba", build=build))
        self.assertEqual(("", "1", "1"), words_of(build, "bba"))
        self.assertEqual(("", "0", "1"), words_of(build, "aba"))


if __name__ == "__main__":
    unittest.main()
