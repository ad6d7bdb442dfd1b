"""Points 40 and 41."""

import random
import unittest

from outpressed.cuts import cut_of
from outpressed.errors import BadAlphabet, BadLetter, EmptyRing
from outpressed.rounds import Round, pieces_bound, word_count
from outpressed.stretches import fill, fill_evenly
from tests.brute import random_round, texts_up_to

GREAT = [10 ** 9, 10 ** 15 + 7, 10 ** 30 - 1, 10 ** 30]


def unrolled(head, ring, length):
    """The beginning of the endless text, by point 40."""
    text = head
    while len(text) < length:
        text += ring
    return text[:length]


def shortest_slowly(head, ring):
    """The shortest head and ring of the same endless text, looked for from the shortest on."""
    reach = 3 * (len(head) + len(ring))
    text = unrolled(head, ring, reach)
    for ahead in range(len(head) + 1):
        for around in range(1, len(ring) + 1):
            if unrolled(text[:ahead], text[ahead:ahead + around], reach) == text:
                return text[:ahead], text[ahead:ahead + around]


class RoundTest(unittest.TestCase):
    def test_the_example(self):
        endless = Round("ab", "aab", "abab")
        self.assertEqual(["a", "ab", 3], [endless.head, endless.ring, endless.variety])

    def test_the_shortest_form_by_the_definition(self):
        for head in texts_up_to("ab", 4):
            for ring in texts_up_to("ab", 6)[1:]:
                endless = Round("ab", head, ring)
                self.assertEqual(shortest_slowly(head, ring), (endless.head, endless.ring), (head, ring))
                self.assertEqual(len(endless.head) + len(endless.ring), endless.variety)
        source = random.Random(40)
        for _ in range(300):
            ring = "".join(source.choice("abc") for _ in range(source.randint(1, 4))) * source.randint(1, 4)
            head = "".join(source.choice("abc") for _ in range(source.randint(0, 3))) + ring * source.randint(0, 2)
            endless = Round("abc", head, ring)
            self.assertEqual(shortest_slowly(head, ring), (endless.head, endless.ring), (head, ring))

    def test_known_forms(self):
        for head, ring, told in (("", "a", ("", "a")), ("aaa", "a", ("", "a")), ("", "abab", ("", "ab")),
                                 ("b", "ab", ("", "ba")), ("bab", "ab", ("", "ba")), ("cb", "ab", ("c", "ba")),
                                 ("ab", "ab", ("", "ab")), ("a", "b", ("a", "b")), ("abb", "b", ("a", "b")),
                                 ("", "aab", ("", "aab")), ("aab", "aaab", ("", "aaba")),
                                 ("a", "ba" * 30, ("", "ab")), ("c" * 60, "c" * 60, ("", "c")),
                                 ("abc" * 20, "bca" * 20, ("abc" * 19 + "abc", "bca"))):
            endless = Round("abc", head, ring)
            self.assertEqual(told, (endless.head, endless.ring), (head, ring))

    def test_fields(self):
        endless = Round("abc", "aab", "abab")
        self.assertEqual({"alphabet": "abc", "head": "a", "ring": "ab", "variety": 3}, vars(endless))
        self.assertEqual((60 + 60, 60, 60), (lambda made: (made.variety, len(made.head), len(made.ring)))(
            Round("ab", "a" * 59 + "b", "b" * 59 + "a")))

    def test_letters_and_beginnings(self):
        source = random.Random(41)
        for _ in range(100):
            head = "".join(source.choice("abc") for _ in range(source.randint(0, 6)))
            ring = "".join(source.choice("abc") for _ in range(source.randint(1, 6)))
            endless, text = Round("abc", head, ring), unrolled(head, ring, 50)
            self.assertEqual(text, "".join(endless.letter_of(index) for index in range(50)))
            for length in range(51):
                self.assertEqual(text[:length], endless.beginning(length))

    def test_far_letters_and_long_beginnings(self):
        endless = Round("abc", "c", "ab")
        self.assertEqual(["c", "b", "a"], [endless.letter_of(0), endless.letter_of(10 ** 30),
                                           endless.letter_of(10 ** 30 - 1)])
        self.assertEqual("a", Round("a", "", "a").letter_of(10 ** 30))
        self.assertEqual("c" + "ab" * 9999 + "a", endless.beginning(20000))
        self.assertEqual("", endless.beginning(0))
        self.assertEqual("c", Round("abc", "c" * 60, "ab").beginning(60)[-1])

    def test_equal(self):
        self.assertIs(True, Round("ab", "aab", "abab") == Round("ab", "a", "ab"))
        self.assertIs(True, Round("ab", "", "ab") == Round("ab", "ab", "abab"))
        self.assertIs(False, Round("ab", "", "ab") == Round("ab", "", "ba"))
        self.assertIs(False, Round("ab", "a", "b") == Round("abc", "a", "b"))
        self.assertIs(False, Round("ab", "", "a") == Round("ab", "b", "a"))
        self.assertIs(True, Round("ab", "a", "b") != Round("ab", "b", "a"))
        for other in ("ab", None, 3, ("ab", "", "a")):
            self.assertIs(False, Round("ab", "", "a") == other)

    def test_errors_in_order(self):
        for arguments, told in ((("ba", "c", ""), "ba"), (("", "", ""), ""), (("abcdefg", "", "a"), "abcdefg")):
            with self.assertRaises(BadAlphabet) as caught:
                Round(*arguments)
            self.assertEqual(told, caught.exception.alphabet)
        for head, ring, index in (("abc", "c", 2), ("ab", "abbc", 3), ("c", "", 0), ("a b", "ccc", 1), ("", "B", 0)):
            with self.assertRaises(BadLetter) as caught:
                Round("ab", head, ring)
            self.assertEqual(index, caught.exception.index)
        for head in ("", "ab"):
            with self.assertRaises(EmptyRing):
                Round("ab", head, "")

    def test_by_name_and_again(self):
        endless = Round(ring="ab", head="b", alphabet="ab")
        self.assertEqual(Round("ab", "b", "ab"), endless)
        self.assertEqual((endless.letter_of(7), endless.beginning(7)),
                         (endless.letter_of(index=7), endless.beginning(length=7)))


class WordCountTest(unittest.TestCase):
    def test_the_example(self):
        self.assertEqual(3, word_count(Round("ab", "aab", "abab"), 2))

    def test_by_the_definition(self):
        source = random.Random(411)
        for _ in range(200):
            endless = random_round(source, "ab" if source.random() < 0.7 else "abc", 6)
            text = unrolled(endless.head, endless.ring, 60)
            before = 0
            for length in range(16):
                told = len({text[at:at + length] for at in range(40)})
                self.assertEqual(told, word_count(endless, length))
                self.assertGreaterEqual(told, before)
                before = told

    def test_from_the_variety_on_it_is_the_variety(self):
        source = random.Random(412)
        for _ in range(100):
            endless = random_round(source, "ab", 30)
            for length in [endless.variety, endless.variety + 1] + GREAT:
                self.assertEqual(endless.variety, word_count(endless, length))
            self.assertEqual(1, word_count(endless, 0))

    def test_one_word(self):
        self.assertEqual([1] * 6, [word_count(Round("a", "", "a"), length) for length in [0, 1] + GREAT])

    def test_words_that_part_late(self):
        endless = Round("ab", "a" * 59 + "b", "b" * 59 + "a")
        self.assertEqual(120, endless.variety)
        text = unrolled(endless.head, endless.ring, 600)
        for length in (1, 2, 58, 59, 60, 61, 62, 100, 119):
            self.assertEqual(len({text[at:at + length] for at in range(400)}), word_count(endless, length))

    def test_by_name_and_again(self):
        endless = Round("ab", "aab", "ab")
        first = word_count(length=2, endless=endless)
        word_count(Round("ab", "", "a"), 5)
        self.assertEqual(first, word_count(endless, 2))


class PiecesBoundTest(unittest.TestCase):
    def test_the_example(self):
        self.assertEqual(4, pieces_bound(Round("ab", "aab", "abab"), 6))

    def test_by_fill(self):
        source = random.Random(413)
        for _ in range(60):
            endless = random_round(source, "abc", source.choice([1, 3, 8]))
            counts = [word_count(endless, length) for length in range(1, 301)]
            for length in list(range(60)) + [100, 299, 300]:
                self.assertEqual(fill(length, counts), pieces_bound(endless, length))

    def test_no_beginning_has_more_pieces(self):
        source = random.Random(414)
        for _ in range(60):
            endless = random_round(source, "ab", source.choice([1, 2, 5]))
            for length in list(range(30)) + [100, 1000]:
                bound = pieces_bound(endless, length)
                self.assertLessEqual(cut_of("ab", endless.beginning(length)).many, bound)
                self.assertLessEqual(bound ** 2, 2 * length * endless.variety)

    def test_great_lengths(self):
        source = random.Random(415)
        for endless in [Round("a", "", "a"), Round("ab", "a" * 59 + "b", "b" * 59 + "a")] + [
                random_round(source, "abc", 20) for _ in range(20)]:
            counts = [word_count(endless, length) for length in range(1, endless.variety)]
            for length in GREAT:
                bound = pieces_bound(endless, length)
                self.assertLessEqual(bound ** 2, 2 * length * endless.variety)
                # The bound is met: so many stretches fit, the shortest first, and one more does not.
                self.assertLessEqual(self.letters(counts, endless.variety, bound), length)
                self.assertGreater(self.letters(counts, endless.variety, bound + 1), length)

    def letters(self, counts, variety, many):
        """The letters of so many stretches, as short as the counts let them be."""
        total, left = 0, many
        for length, count in enumerate(counts, start=1):
            taken = min(left, count)
            total, left = total + taken * length, left - taken
        first = len(counts) + 1
        layers, rest = divmod(left, variety)
        return total + variety * (layers * first + layers * (layers - 1) // 2) + rest * (first + layers)

    def test_edges(self):
        single = Round("a", "", "a")
        self.assertEqual([0, 1, 1, 2, 2, 2, 3], [pieces_bound(single, length) for length in range(7)])
        # One of each length: 1 + 2 + ... + n letters for n pieces.
        for n in (10 ** 6, 14 * 10 ** 14):
            self.assertEqual([n - 1, n, n], [pieces_bound(single, n * (n + 1) // 2 + more) for more in (-1, 0, 1)])
        self.assertEqual([0, 1, 2, 2], [pieces_bound(Round("ab", "", "ab"), length) for length in range(4)])

    def test_by_name_and_again(self):
        endless = Round("ab", "aab", "ab")
        first = pieces_bound(length=50, endless=endless)
        pieces_bound(Round("ab", "", "a"), 5)
        self.assertEqual(first, pieces_bound(endless, 50))


class FillEvenlyTest(unittest.TestCase):
    def test_by_fill(self):
        for first in (1, 2, 3, 7):
            for many in (1, 2, 5, 20):
                for length in range(200):
                    counts = [0] * (first - 1) + [many] * 200
                    self.assertEqual(fill(length, counts), fill_evenly(length, first, many))


if __name__ == "__main__":
    unittest.main()
