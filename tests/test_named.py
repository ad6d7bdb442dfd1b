"""Point 56."""

import random
import unittest

from outpressed.blocks import press
from outpressed.builds import Build
from outpressed.buildmachines import machine_of_build
from outpressed.buildwords import words_of
from outpressed.errors import BadAlphabet, BadLetter, NoName
from outpressed.machines import Machine
from outpressed.named import named_build, named_words
from tests.brute import are_tuples, plain_slowly, raised, random_text, run_slowly, texts_up_to, words_slowly

NAMES = ("unary", "steps", "unary_steps", "held", "pairs", "mixed")
ALPHABETS = ("a", "0", "ab", "01", "0z", "abc", "019x", "bdfhk", "abcdef", "0123yz")
NO_NAMES = ("", "Unary", "unary ", " unary", "unar", "unaryy", "step", "steps_", "unary-steps", "unarysteps", "hold",
            "pair", "mix", "mixed\n", "plain", "late", "a", "held)", "0")


def unary_slowly(alphabet, letter):
    j, n = alphabet.index(letter), len(alphabet)
    return "1" * (n - 1) if n >= 2 and j == n - 1 else "1" * j + "0"


def named_slowly(name, alphabet, text):
    """What the build with this name writes, by point 56."""
    words = []
    for k, letter in enumerate(text):
        before = text[k - 1] if k else None
        turned = letter if before is None else alphabet[(alphabet.index(letter) - alphabet.index(before))
                                                        % len(alphabet)]
        words.append({"unary": lambda: unary_slowly(alphabet, letter),
                      "steps": lambda: plain_slowly(alphabet, turned),
                      "unary_steps": lambda: unary_slowly(alphabet, turned),
                      "held": lambda: "" if before is None else plain_slowly(alphabet, before),
                      "pairs": lambda: press(alphabet, before + letter) if k % 2 else "",
                      "mixed": lambda: (unary_slowly if k % 2 else plain_slowly)(alphabet, letter)}[name]())
    return tuple(words)


class NamedTest(unittest.TestCase):
    def test_words_by_the_definition(self):
        source = random.Random(56)
        for alphabet in ALPHABETS:
            texts = texts_up_to(alphabet, 3 if len(alphabet) < 5 else 2)
            texts += [random_text(source, alphabet, length) for length in (7, 20, 60, 400)]
            for name in NAMES:
                for text in texts:
                    words = named_words(name, alphabet, text)
                    self.assertEqual(named_slowly(name, alphabet, text), words, (name, alphabet, text))
                    self.assertTrue(isinstance(words, tuple) and are_tuples(words))

    def test_builds_write_these_words(self):
        source = random.Random(560)
        for alphabet in ALPHABETS:
            for name in NAMES:
                build = named_build(name, alphabet)
                self.assertIs(Build, type(build))
                self.assertEqual(alphabet, build.alphabet)
                self.assertLessEqual(len(build.text), 300)
                machine = machine_of_build(build)
                for text in ["", alphabet[-1], alphabet * 3] + [random_text(source, alphabet, 25) for _ in range(5)]:
                    told = named_slowly(name, alphabet, text)
                    self.assertEqual(told, words_of(build, text))
                    self.assertEqual(told, tuple(words_slowly(build.text, alphabet, text)))
                    self.assertEqual("".join(told), run_slowly(machine, text)[0])

    def test_told_by_hand(self):
        self.assertEqual(("00", "01", "01", "01"), named_words("steps", "abc", "abca"))
        self.assertEqual(("10", "11"), named_words("mixed", "abc", "cc"))
        self.assertEqual(("0", "10", "110", "111"), named_words("unary", "abcd", "abcd"))
        self.assertEqual(("0", "1"), named_words("unary", "ab", "ab"))
        self.assertEqual(("0", "0"), named_words("unary", "a", "aa"))
        self.assertEqual(("11", "0", "10", "10"), named_words("unary_steps", "abc", "ccab"))
        self.assertEqual(("", "01", "00"), named_words("held", "abc", "bac"))
        self.assertEqual(("", press("ab", "ba"), ""), named_words("pairs", "ab", "bab"))
        for name in NAMES:
            self.assertEqual((), named_words(name, "ab", ""))
        self.assertEqual(Machine.plain("abc").rules[0][1][1], named_words("steps", "abc", "b")[0])

    def test_no_such_name(self):
        for name in NO_NAMES:
            self.assertEqual((name,), raised(NoName, named_build, name, "ab"))
            self.assertEqual((name,), raised(NoName, named_words, name, "ab", "abba"))

    def test_errors_in_order(self):
        for alphabet in ("", "ba", "aa", "abcdefg", "a b", "A"):
            for name in ("held", "nothing"):
                self.assertEqual((alphabet,), raised(BadAlphabet, named_build, name, alphabet))
                self.assertEqual((alphabet,), raised(BadAlphabet, named_words, name, alphabet, "??"))
        for name in ("held", "nothing"):
            self.assertEqual((3,), raised(BadLetter, named_words, name, "ab", "abbc"))
        self.assertEqual(("nothing",), raised(NoName, named_words, "nothing", "ab", ""))

    def test_by_name_and_again(self):
        first = named_build(alphabet="abc", name="mixed")
        named_build("mixed", "ab")
        self.assertEqual(first.text, named_build("mixed", "abc").text)
        self.assertEqual(("", "0"), named_words(text="ab", alphabet="ab", name="held"))


if __name__ == "__main__":
    unittest.main()
