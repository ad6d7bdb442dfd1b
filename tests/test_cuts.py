"""Points 5 to 9."""

import random
import unittest

from outpressed.cuts import Cut, cut_of
from outpressed.errors import BadAlphabet, BadLetter, BadRow, BadTail
from tests.brute import are_tuples, cut_slowly, texts_up_to

NO_ALPHABETS = ["", "ba", "aa", "abca", "A", "a b", "a\n", "a0", "-", "~", "0123456", "abcdefg", " ", "ab "]
ALPHABETS = ["a", "0", "z", "01", "09az", "012345", "uvwxyz", "ab", "9a"]


class AlphabetTest(unittest.TestCase):
    def test_what_is_no_alphabet(self):
        for alphabet in NO_ALPHABETS:
            for call in (lambda: cut_of(alphabet, ""), lambda: Cut(alphabet, [], 0)):
                with self.assertRaises(BadAlphabet) as caught:
                    call()
                self.assertEqual(alphabet, caught.exception.alphabet)

    def test_what_is_one(self):
        for alphabet in ALPHABETS:
            self.assertEqual(alphabet, cut_of(alphabet, alphabet).text)

    def test_the_alphabet_comes_before_the_letter_and_all_else(self):
        with self.assertRaises(BadAlphabet):
            cut_of("ba", "xyz")
        with self.assertRaises(BadAlphabet):
            Cut("ba", [(7, "x")], None)

    def test_the_first_letter_that_is_none(self):
        for text, index in (("x", 0), ("abcab", 2), ("abA", 2), ("ab\n", 2), ("aab ba-", 3), ("~", 0)):
            with self.assertRaises(BadLetter) as caught:
                cut_of("ab", text)
            self.assertEqual(index, caught.exception.index)


class CutOfTest(unittest.TestCase):
    def test_the_example(self):
        cut = cut_of("ab", "abababb")
        self.assertEqual([((0, "a"), (0, "b"), (1, "b"), (3, "b")), 0, (0, 1, 2, 4, 7)],
                         [cut.rows, cut.tail, cut.starts])
        self.assertEqual(("", "a", "b", "ab", "abb"), cut.pieces)

    def test_the_empty_text(self):
        cut = cut_of("abc", "")
        self.assertEqual(("abc", (), 0, ("",), 0, "", (0,)),
                         (cut.alphabet, cut.rows, cut.tail, cut.pieces, cut.many, cut.text, cut.starts))

    def test_one_letter_and_a_tail(self):
        cut = cut_of("a", "aaaaa")
        self.assertEqual((("", "a", "aa"), 2, 2, (0, 1, 3)), (cut.pieces, cut.tail, cut.many, cut.starts))

    def check(self, alphabet, text):
        cut = cut_of(alphabet, text)
        pieces, tail = cut_slowly(text)
        self.assertEqual(tuple(pieces), cut.pieces)
        self.assertEqual(tail, cut.pieces[cut.tail])
        self.assertEqual(text, cut.text)
        self.assertEqual(alphabet, cut.alphabet)
        self.assertEqual(len(pieces) - 1, cut.many)
        self.assertEqual(cut.many, len(cut.rows))
        for (parent, letter), piece in zip(cut.rows, pieces[1:]):
            self.assertEqual(piece, pieces[parent] + letter)
        self.assertEqual(cut.many + 1, len(cut.starts))
        for start, piece in zip(cut.starts, pieces[1:] + [tail]):
            self.assertEqual(piece, text[start:start + len(piece)])
        self.assertEqual(len(text) - len(tail), cut.starts[-1])
        self.assertTrue(are_tuples((cut.rows, cut.pieces, cut.starts)))
        self.assertEqual(cut, Cut(alphabet, cut.rows, cut.tail))

    def test_short_texts_by_the_definition(self):
        for alphabet, length in (("a", 30), ("ab", 9), ("09z", 6)):
            for text in texts_up_to(alphabet, length):
                self.check(alphabet, text)

    def test_long_texts_by_the_definition(self):
        source = random.Random(7)
        for alphabet in ("a", "01", "abcdef"):
            self.check(alphabet, "".join(source.choice(alphabet) for _ in range(400)))
        self.check("ab", "ab" * 200)

    def test_a_long_text_of_the_program(self):
        self.assertEqual(40000, len(cut_of("a", "a" * 40000).text))

    def test_different_texts_have_different_cuts(self):
        texts = texts_up_to("ab", 8)
        self.assertEqual(len(texts), len({(cut_of("ab", text).rows, cut_of("ab", text).tail) for text in texts}))

    def test_by_name(self):
        self.assertEqual(cut_of("ab", "aab"), cut_of(text="aab", alphabet="ab"))


class CutTest(unittest.TestCase):
    def test_lists_and_tuples(self):
        rows = ((0, "a"), (0, "b"), (1, "b"))
        cut = Cut("ab", rows, 2)
        for other in ([[0, "a"], [0, "b"], [1, "b"]], [(0, "a"), [0, "b"], (1, "b")], ([0, "a"], (0, "b"), [1, "b"])):
            same = Cut(tail=2, rows=other, alphabet="ab")
            self.assertEqual(rows, same.rows)
            self.assertTrue(are_tuples(same.rows))
            self.assertTrue(cut == same)
        self.assertEqual("ababb", cut.text)

    def test_a_later_change_has_no_effect(self):
        row = [0, "a"]
        rows = [row]
        cut = Cut("ab", rows, 1)
        row[1] = "b"
        rows.append([0, "a"])
        self.assertEqual((((0, "a"),), "aa", ("", "a")), (cut.rows, cut.text, cut.pieces))
        self.assertEqual([[0, "b"], [0, "a"]], rows)

    def test_equality(self):
        cut = Cut("ab", [(0, "a")], 0)
        self.assertTrue(cut == cut_of("ab", "a"))
        self.assertFalse(cut != cut_of("ab", "a"))
        for other in (Cut("ab", [(0, "a")], 1), Cut("abc", [(0, "a")], 0), Cut("ab", [(0, "b")], 0),
                      Cut("ab", [], 0), "a", None, 0, ("ab", ((0, "a"),), 0)):
            self.assertFalse(cut == other)
            self.assertTrue(cut != other)

    def check_row(self, index, rows, tail=0, alphabet="ab"):
        with self.assertRaises(BadRow) as caught:
            Cut(alphabet, rows, tail)
        self.assertEqual(index, caught.exception.index)

    def test_rows_that_are_not_good(self):
        for parent in (-1, 1, 2, True, False, None, "0", "a", 10 ** 40):
            self.check_row(0, [(parent, "a")])
        for letter in ("", "ab", "c", "A", 0, True, None, "abab"):
            self.check_row(0, [(0, letter)])
        self.check_row(1, [(0, "a"), (0, "a")])
        self.check_row(2, [(0, "a"), (1, "a"), (3, "a")])
        self.check_row(1, [(0, "a"), (True, "a")])
        self.check_row(1, [[0, "a"], ["a", 0]])
        self.check_row(3, [(0, "a"), (0, "b"), (2, "b"), (0, "b"), (9, "c")])
        self.check_row(1, [(0, "a"), (0, "b")], alphabet="a")

    def test_rows_come_before_the_tail(self):
        self.check_row(0, [(1, "a")], tail=99)
        self.check_row(0, [(1, "a")], tail=None)

    def test_tails_that_are_not_good(self):
        for rows, tail in (([], 1), ([], -1), ([(0, "a")], 2), ([], True), ([], False), ([], None), ([], "0"),
                           ([(0, "a")], True), ([(0, "a")], 10 ** 40)):
            with self.assertRaises(BadTail) as caught:
                Cut("ab", rows, tail)
            self.assertIs(tail, caught.exception.tail)

    def test_tails_at_their_bounds(self):
        rows = [(0, "b"), (1, "b")]
        self.assertEqual(["bbb", "bbbb", "bbbbb"], [Cut("ab", rows, tail).text for tail in range(3)])
        self.assertEqual("", Cut("ab", [], 0).text)

    def test_many_rows(self):
        rows = [(0, "a")] + [(0, "b")] + [(k, "ab"[k % 2]) for k in range(1, 40)]
        cut = Cut("ab", rows, 3)
        self.assertEqual(cut, cut_of("ab", cut.text))

    def test_each_good_cut_is_that_of_its_text(self):
        source = random.Random(8)
        for _ in range(200):
            rows = []
            for index in range(source.randint(0, 25)):
                row = (source.randint(0, index), source.choice("abc"))
                if row not in rows and row[0] <= len(rows):
                    rows.append(row)
            cut = Cut("abc", rows, source.randint(0, len(rows)))
            self.assertEqual(cut, cut_of("abc", cut.text))

    def test_the_same_question_again(self):
        first = cut_of("ab", "abba")
        cut_of("ab", "bbbb")
        self.assertEqual(first, cut_of("ab", "abba"))
        self.assertEqual(("", "a", "b", "ba"), first.pieces)


if __name__ == "__main__":
    unittest.main()
