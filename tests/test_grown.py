"""Point 60."""

import random
import unittest

from outpressed.errors import AlphabetsDiffer, BadAlphabet, BadGrowth, BadIndex, BadLetter, EmptyText
from outpressed.grown import Grown, beginning_of, grown_of, powered
from outpressed.rounds import Round
from tests.brute import (LONG, SMALL, are_tuples, grown_slowly, raised, random_growth, random_round, random_text,
                         texts_up_to)

def text_of(grown):
    """The whole text, of at most 2,000 letters."""
    return grown.stretch(0, grown.size)


class GrownTest(unittest.TestCase):
    def test_by_the_definition(self):
        source = random.Random(60)
        for _ in range(200):
            alphabet = source.choice(["a", "ab", "abc"])
            rules = random_growth(source, alphabet, source.randint(1, 25), 300)
            texts = grown_slowly(rules)
            grown = Grown(alphabet, rules)
            self.assertEqual((alphabet, tuple(rules)), (grown.alphabet, grown.rules))
            self.assertEqual((tuple(map(len, texts)), len(texts[-1])), (grown.lengths, grown.size))
            self.assertEqual(texts[-1], "".join(grown.letter_of(index) for index in range(grown.size)))
            for _ in range(20):
                start = source.randint(0, grown.size)
                end = source.randint(start, grown.size)
                self.assertEqual(texts[-1][start:end], grown.stretch(start, end))
            self.assertEqual(texts[-1], text_of(grown))

    def test_fields_lists_and_later_changes(self):
        rules = ["a", "b", [0, 1], (2, 2)]
        grown = Grown("ab", rules)
        rules[2][0] = 1
        rules.append("a")
        self.assertEqual({"alphabet": "ab", "rules": ("a", "b", (0, 1), (2, 2)), "lengths": (1, 1, 2, 4), "size": 4},
                         vars(grown))
        self.assertTrue(are_tuples(grown.rules) and are_tuples(grown.lengths))
        self.assertEqual(grown, Grown(rules=("a", "b", (0, 1), [2, 2]), alphabet="ab"))
        self.assertEqual("ba", grown.stretch(end=3, start=1))
        self.assertEqual("b", grown.letter_of(index=3))

    def test_rules_that_the_last_one_does_not_need(self):
        grown = Grown("abc", ["a", (0, 0), "c", "c", "b"])
        self.assertEqual((1, "b", (1, 2, 1, 1, 1)), (grown.size, grown.letter_of(0), grown.lengths))

    def test_bad_rules(self):
        self.assertEqual((0,), raised(BadGrowth, Grown, "ab", []))
        self.assertEqual((0,), raised(BadGrowth, Grown, "ab", ()))
        for wrong in ("", "c", "ab", "A", " ", "a ", "0", (0, 3), (3, 0), (0, -1), (-1, 0), (True, 0), (0, True),
                      (False, 0), (0, None), (None, None), ("a", "b"), ("0", 0), (0, ""), (10 ** 40, 0), [0, 3],
                      (2, "a")):
            for later in ([], ["a"], ["", (9, 9)]):
                self.assertEqual((3,), raised(BadGrowth, Grown, "ab", ["a", "b", (0, 1), wrong] + later), wrong)
        for rules, index in ((["c"], 0), ([(0, 0)], 0), (["a", (1, 0)], 1), (["a", (0, 1)], 1), (["a", (0, 0), "x"], 2),
                             (["a", "b", (2, 0)], 2), ([(0, 0), "?"], 0), (["aa"], 0), ([""], 0)):
            self.assertEqual((index,), raised(BadGrowth, Grown, "ab", rules))
        for alphabet in ("", "ba", "aa", "abcdefg", "a b", "A"):
            self.assertEqual((alphabet,), raised(BadAlphabet, Grown, alphabet, []))

    def test_indexes(self):
        grown = Grown("ab", SMALL)
        for index in (4, -1, 5, 10 ** 40, -10 ** 40):
            self.assertEqual((index,), raised(BadIndex, grown.letter_of, index))
        self.assertEqual(["a", "b", "a", "b"], [grown.letter_of(index) for index in range(4)])
        for start, end, wrong in ((-1, 2, -1), (5, 5, 5), (5, 2, 5), (-3, -9, -3), (0, 5, 5), (2, 1, 1), (4, 5, 5),
                                  (4, 3, 3), (0, -1, -1), (3, -10 ** 40, -10 ** 40), (10 ** 40, 10 ** 40, 10 ** 40)):
            self.assertEqual((wrong,), raised(BadIndex, grown.stretch, start, end))
        for start in range(5):
            for end in range(start, 5):
                self.assertEqual("abab"[start:end], grown.stretch(start, end))

    def test_long_texts(self):
        grown = Grown("ab", LONG)
        self.assertEqual((2 ** 102, 104), (grown.size, len(grown.rules)))
        for index in (0, 1, 10 ** 29, 10 ** 30 + 7, 2 ** 102 - 1):
            self.assertEqual("ab"[index % 2], grown.letter_of(index))
        self.assertEqual((2 ** 102,), raised(BadIndex, grown.letter_of, 2 ** 102))
        for start in (0, 12345, 10 ** 30, 2 ** 102 - 2000):
            self.assertEqual(("ab" * 1001)[start % 2:][:2000], grown.stretch(start, start + 2000))
        self.assertEqual("", grown.stretch(2 ** 102, 2 ** 102))
        self.assertEqual((2 ** 102 + 1,), raised(BadIndex, grown.stretch, 2 ** 102, 2 ** 102 + 1))

    def test_a_text_that_does_not_come_round(self):
        # Each text is followed by itself with both letters exchanged.
        rules = ["a", "b"]
        for k in range(1, 50):
            rules += [(2 * k - 2, 2 * k - 1), (2 * k - 1, 2 * k - 2)]
        grown = Grown("ab", rules[:-1])
        self.assertEqual(2 ** 49, grown.size)
        for index in (0, 1, 2, 3, 2 ** 40 + 5, 2 ** 49 - 1):
            self.assertEqual("ab"[bin(index).count("1") % 2], grown.letter_of(index))
        start = 2 ** 45 + 12345
        self.assertEqual("".join("ab"[bin(index).count("1") % 2] for index in range(start, start + 2000)),
                         grown.stretch(start, start + 2000))

    def test_rules_like_a_staircase(self):
        for pair in ((lambda k: (k - 1, 0)), (lambda k: (0, k - 1))):
            grown = Grown("ab", ["a", "b"] + [pair(k) for k in range(2, 120)])
            self.assertEqual(119, grown.size)
            self.assertEqual(grown_slowly(grown.rules)[-1], text_of(grown))
            self.assertEqual(text_of(grown), "".join(grown.letter_of(index) for index in range(119)))

    def test_equal(self):
        grown = Grown("ab", SMALL)
        self.assertIs(True, grown == Grown("ab", tuple(SMALL)))
        for other in (Grown("abc", SMALL), Grown("ab", SMALL + ["a"]), Grown("ab", ["b", "a", (1, 0), (2, 2)]),
                      tuple(SMALL), None, "abab", 0):
            self.assertIs(False, grown == other)
        self.assertIs(True, grown != Grown("ab", ["a"]))


class MadeTest(unittest.TestCase):
    def check(self, made, text, given=0, letters=0):
        self.assertIs(Grown, type(made))
        self.assertEqual(text, text_of(made))
        self.assertLessEqual(len(made.rules), given + 2 * letters + 1000)

    def test_plus(self):
        source = random.Random(600)
        for _ in range(150):
            alphabet = source.choice(["a", "ab", "abc"])
            one, two = [Grown(alphabet, random_growth(source, alphabet, source.randint(1, 20), 200)) for _ in range(2)]
            kept = one.rules, two.rules
            self.check(one + two, text_of(one) + text_of(two), len(one.rules) + len(two.rules))
            self.check(one + one, 2 * text_of(one), 2 * len(one.rules))
            self.check(one + two + one, text_of(one) + text_of(two) + text_of(one), 2 * len(one.rules + two.rules))
            self.assertEqual(kept, (one.rules, two.rules))
            self.assertEqual(one + two, one + two)

    def test_plus_many_times(self):
        grown = grown_of("ab", "ab")
        for _ in range(102):
            grown = grown + grown
        self.assertEqual(2 ** 103, grown.size)
        self.assertEqual("ab"[10 ** 31 % 2], grown.letter_of(10 ** 31))
        self.assertLessEqual(len(grown.rules), 1000)
        chain = grown_of("ab", "a")
        for k in range(1500):
            chain = chain + grown_of("ab", "ab"[k % 3 == 0])
        self.assertEqual("a" + "".join("ab"[k % 3 == 0] for k in range(1500)), text_of(chain))

    def test_plus_with_other_alphabets(self):
        one, two = grown_of("ab", "a"), grown_of("abc", "a")
        self.assertEqual(("ab", "abc"), raised(AlphabetsDiffer, lambda: one + two))
        self.assertEqual(("abc", "ab"), raised(AlphabetsDiffer, lambda: two + one))

    def test_grown_of(self):
        for text in texts_up_to("ab", 7)[1:]:
            self.check(grown_of("ab", text), text, 0, len(text))
        source = random.Random(601)
        for length in (1, 2, 3, 31, 59, 60, 1999):
            text = random_text(source, "abcdef", length)
            self.check(grown_of("abcdef", text), text, 0, length)
        self.check(grown_of(text="a", alphabet="a"), "a", 0, 1)

    def test_grown_of_a_very_long_text(self):
        text = ("abcab" * 20000)[:99999]
        grown = grown_of("abc", text)
        self.assertEqual(99999, grown.size)
        self.assertEqual(text[54321:56321], grown.stretch(54321, 56321))

    def test_grown_of_errors_in_order(self):
        self.assertEqual(("ba",), raised(BadAlphabet, grown_of, "ba", ""))
        self.assertEqual((2,), raised(BadLetter, grown_of, "ab", "abc"))
        self.assertEqual((), raised(EmptyText, grown_of, "ab", ""))

    def test_powered(self):
        source = random.Random(602)
        for times in list(range(1, 40)) + [63, 64, 65, 100, 127, 128]:
            rules = random_growth(source, "ab", source.randint(1, 8), 12)
            grown = Grown("ab", rules)
            self.check(powered(grown, times), text_of(grown) * times, len(rules))
            self.assertEqual(tuple(rules), grown.rules)
        self.check(powered(times=3, grown=grown_of("a", "a")), "aaa", 1)

    def test_powered_far(self):
        grown = Grown("abc", ["a", "b", "c", (0, 1), (3, 2)])
        for times in (10 ** 30, 10 ** 30 - 1, 2 ** 99, 2 ** 99 - 1, 2 ** 99 + 1):
            made = powered(grown, times)
            self.assertEqual(3 * times, made.size)
            self.assertLessEqual(len(made.rules), 1005)
            for index in (0, 3 * times - 1, 10 ** 29 + 1, times):
                self.assertEqual("abc"[index % 3], made.letter_of(index))
            self.assertEqual(("abc" * 700)[(times - 2) % 3:][:2000], made.stretch(times - 2, times + 1998))

    def test_beginning_of(self):
        source = random.Random(603)
        for _ in range(150):
            endless = random_round(source, source.choice(["a", "ab", "abc"]), 8)
            for length in [1, 2, 3, endless.variety, endless.variety + 1] + [source.randint(1, 200) for _ in range(4)]:
                made = beginning_of(endless, length)
                self.check(made, endless.beginning(length), 0, endless.variety)
                self.assertEqual(endless.alphabet, made.alphabet)

    def test_beginning_of_far(self):
        source = random.Random(604)
        for endless in [Round("ab", "", "a"), Round("ab", "b", "ab"), random_round(source, "abc", 60),
                        Round("abcdef", random_text(source, "abcdef", 60), random_text(source, "abcdef", 60))]:
            for length in (10 ** 30, 10 ** 30 - 1, 2 ** 99 + 17):
                made = beginning_of(length=length, endless=endless)
                self.assertEqual(length, made.size)
                self.assertLessEqual(len(made.rules), 2 * endless.variety + 1000)
                for index in (0, 59, 60, 10 ** 15, length - 1):
                    self.assertEqual(endless.letter_of(index), made.letter_of(index))
                start = length - 2000
                self.assertEqual("".join(endless.letter_of(index) for index in range(start, length)),
                                 made.stretch(start, length))

    def test_the_same_question_again(self):
        first = beginning_of(Round("ab", "b", "ab"), 1000)
        powered(first, 7)
        self.assertEqual(first, beginning_of(Round("ab", "ba", "ba"), 1000))
        self.assertEqual(grown_of("ab", "abba"), grown_of("ab", "abba"))


if __name__ == "__main__":
    unittest.main()
