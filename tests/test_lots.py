"""Point 46."""

import random
import unittest

from outpressed.errors import AlphabetsDiffer, BadAlphabet, BadLetter, BadRule, BadStanding
from outpressed.lots import Lot, lot_containing, lot_counting, lot_of
from tests.brute import are_tuples, in_order, is_in_rows, random_lots, random_rows, random_text, texts_up_to

NOTHING = ((False, (0, 0)),)
ALL = ((True, (0, 0)),)


def texts_in(lot, length):
    """All texts of the lot with at most this length."""
    return [text for text in texts_up_to(lot.alphabet, length) if text in lot]


def rows_slowly(alphabet, rows):
    """The least description: standings are one as long as no further letter tells them apart."""
    kinds = [row[0] for row in rows]
    for _ in rows:
        kinds = [(kind, tuple(kinds[following] for following in row[1])) for kind, row in zip(kinds, rows)]
        numbers = {kind: number for number, kind in enumerate(dict.fromkeys(kinds))}
        kinds = [numbers[kind] for kind in kinds]
    order = [0]
    for standing in order:
        for following in rows[standing][1]:
            if kinds[following] not in [kinds[other] for other in order]:
                order.append(following)
    places = {kinds[standing]: place for place, standing in enumerate(order)}
    return tuple((rows[standing][0], tuple(places[kinds[following]] for following in rows[standing][1]))
                 for standing in order)


class LotTest(unittest.TestCase):
    def test_texts_by_the_definition(self):
        source = random.Random(46)
        for _ in range(200):
            alphabet = source.choice(["a", "ab", "abc"])
            rows = random_rows(source, len(alphabet), source.randint(1, 6))
            lot = Lot(alphabet, rows)
            for text in texts_up_to(alphabet, 5):
                self.assertIs(is_in_rows(alphabet, rows, text), text in lot)
                self.assertIs(is_in_rows(alphabet, rows, text), is_in_rows(alphabet, lot.rows, text))

    def test_the_least_form_by_the_definition(self):
        source = random.Random(461)
        fewer = 0
        for _ in range(200):
            alphabet = source.choice(["a", "ab", "abc"])
            rows = random_rows(source, len(alphabet), source.randint(1, 5))
            lot = Lot(alphabet, rows)
            self.assertEqual(rows_slowly(alphabet, rows), lot.rows)
            self.assertTrue(are_tuples(lot.rows) and all(accepts in (True, False) and type(accepts) is bool
                                                         for accepts, _ in lot.rows))
            fewer += len(lot.rows) < len(rows)
        self.assertGreater(fewer, 50)

    def test_numbering_by_the_least_texts(self):
        # The standing behind b comes before the one behind aa.
        rows = [(False, (3, 1)), (True, (1, 1)), (False, (2, 2)), (False, (2, 1))]
        self.assertEqual(((False, (1, 2)), (False, (3, 2)), (True, (2, 2)), (False, (3, 3))), Lot("ab", rows).rows)

    def test_no_text_and_all_texts(self):
        for standings in (1, 2, 5, 60):
            nexts = [[(k + 1) % standings, (k * 7) % standings] for k in range(standings)]
            self.assertEqual(NOTHING, Lot("ab", [(False, row) for row in nexts]).rows)
            self.assertEqual(ALL, Lot("ab", [(True, row) for row in nexts]).rows)

    def test_standings_that_are_not_reached(self):
        self.assertEqual(ALL, Lot("ab", [(True, (0, 0)), (False, (0, 1))]).rows)

    def test_sixty_standings(self):
        ring = Lot("a", [(k == 59, [(k + 1) % 60]) for k in range(60)])
        self.assertEqual(tuple((k == 59, ((k + 1) % 60,)) for k in range(60)), ring.rows)
        self.assertTrue("a" * 59 in ring and "a" * 359 in ring and "a" * 60 not in ring)
        self.assertEqual(6, len(Lot("a", [(k % 6 == 5, [(k + 1) % 60]) for k in range(60)]).rows))

    def test_fields_lists_and_later_changes(self):
        rows = [[True, [1, 0]], (False, (1, 1))]
        lot = Lot("ab", rows)
        self.assertEqual({"alphabet": "ab", "rows": ((True, (1, 0)), (False, (1, 1)))}, vars(lot))
        rows[0][1][0] = 0
        rows[0][0] = False
        rows.append(rows[1])
        self.assertEqual(((True, (1, 0)), (False, (1, 1))), lot.rows)
        self.assertEqual(lot, Lot(rows=((True, (1, 0)), [False, [1, 1]]), alphabet="ab"))
        self.assertEqual(3, len(rows))

    def test_strings_that_are_no_texts(self):
        everything = Lot("ab", ALL)
        for string in ("", "a", "b", "ab" * 200):
            self.assertIs(True, string in everything)
        for string in ("c", "abc", "cab", "a b", "A", "\n", " ", "ab\n", "0", "~", "aXb", "a" * 399 + "c"):
            self.assertIs(False, string in everything)
            self.assertIs(False, string in ~Lot("ab", NOTHING))
        self.assertIs(False, "" in Lot("ab", NOTHING))

    def test_equal(self):
        lot = lot_counting("ab", "a", 0, 2)
        self.assertIs(True, lot == Lot("ab", [(True, (1, 2)), (False, (0, 1)), (True, (1, 0))]))
        self.assertIs(False, lot == ~lot)
        self.assertIs(False, Lot("ab", ALL) == Lot("bc", ALL))
        self.assertIs(True, Lot("ab", ALL) != Lot("ab", NOTHING))
        for other in (ALL, None, "ab", 0):
            self.assertIs(False, Lot("ab", ALL) == other)

    def test_bad_alphabets_and_standings(self):
        for alphabet in ("", "ba", "aa", "abcdefg", "a b", "A"):
            with self.assertRaises(BadAlphabet) as caught:
                Lot(alphabet, [])
            self.assertEqual(alphabet, caught.exception.alphabet)
        for rows, standing in (([], 0), ((), 0), ([(True, [])], 0), ([(True, (0, 0)), (True, (0,))], 1),
                               ([(True, (0, 0, 0))], 0), ([(True, ("x", 0)), (True, ()), (True, (1,))], 1)):
            with self.assertRaises(BadStanding) as caught:
                Lot("ab", rows)
            self.assertEqual(standing, caught.exception.standing)

    def test_bad_next_standings(self):
        for wrong in (2, -1, 10 ** 40, "0", "", True, False, None):
            for rows, standing, letter in (([(True, (wrong, 0)), (True, (0, 0))], 0, "a"),
                                           ([(True, (0, wrong)), (True, (wrong, 0))], 0, "b"),
                                           ([(True, (0, 1)), (True, (0, wrong))], 1, "b"),
                                           ([(True, [1, 1]), [True, [wrong, wrong]]], 1, "a")):
                with self.assertRaises(BadRule) as caught:
                    Lot("ab", rows)
                self.assertEqual((standing, letter), (caught.exception.standing, caught.exception.letter))


class OperatorsTest(unittest.TestCase):
    def test_by_the_definition(self):
        lots = random_lots(462, 60, alphabets=("ab",), standings=5)
        texts = texts_up_to("ab", 6)
        for one, two in zip(lots, lots[1:]):
            for made, told in ((~one, lambda a, b: not a), (one & two, lambda a, b: a and b),
                               (one | two, lambda a, b: a or b), (one - two, lambda a, b: a and not b)):
                self.assertIsInstance(made, Lot)
                for text in texts:
                    self.assertIs(told(text in one, text in two), text in made)
                self.assertEqual(rows_slowly("ab", made.rows), made.rows)

    def test_laws(self):
        lots = random_lots(463, 60, alphabets=("abc",), standings=6)
        nothing, everything = Lot("abc", [(False, (0, 0, 0))]), Lot("abc", [(True, (0, 0, 0))])
        for one, two, three in zip(lots, lots[1:], lots[2:]):
            self.assertEqual(one, ~~one)
            self.assertEqual(~(one & two), ~one | ~two)
            self.assertEqual(one - two, one & ~two)
            self.assertEqual(one & (two | three), (one & two) | (one & three))
            self.assertEqual([nothing, everything, one, one], [one & ~one, one | ~one, one & one, one - nothing])
            self.assertEqual([two & one, two | one], [one & two, one | two])

    def test_the_lots_are_not_changed(self):
        one, two = lot_counting("ab", "a", 0, 3), lot_containing("ab", "ab")
        kept = one.rows, two.rows
        for made in (~one, one & two, one | two, one - two):
            self.assertIsNot(made, one)
        self.assertEqual(kept, (one.rows, two.rows))
        self.assertEqual(one & two, one & two)

    def test_alphabets_differ(self):
        one, two = Lot("ab", ALL), Lot("bc", ALL)
        for call in (lambda a, b: a & b, lambda a, b: a | b, lambda a, b: a - b):
            for first, second in ((one, two), (two, one)):
                with self.assertRaises(AlphabetsDiffer) as caught:
                    call(first, second)
                self.assertEqual((first.alphabet, second.alphabet), (caught.exception.one, caught.exception.two))

    def test_lots_beyond_the_bounds(self):
        made = Lot("abc", [(True, (0, 0, 0))])
        for letter, modulus in (("a", 11), ("b", 12), ("c", 9)):
            made = made & lot_counting("abc", letter, 1, modulus)
        self.assertEqual(11 * 12 * 9, len(made.rows))
        self.assertTrue("abc" in made and "cab" + "a" * 11 in made and "abcc" not in made)
        self.assertEqual(made, ~~made)
        self.assertEqual(Lot("abc", [(False, (0, 0, 0))]), made - made)
        # The word that is found is the end of all counting.
        self.assertEqual(3 * 1188 + 1, len((made | lot_containing("abc", "aba")).rows))


class LotOfTest(unittest.TestCase):
    def test_by_the_definition(self):
        source = random.Random(464)
        for _ in range(100):
            texts = [random_text(source, "ab", source.randint(0, 5)) for _ in range(source.randint(0, 8))]
            lot = lot_of("ab", texts)
            self.assertEqual(in_order(set(texts)), texts_in(lot, 7))
            source.shuffle(texts)
            self.assertEqual(lot, lot_of("ab", tuple(texts + texts[:2])))
            self.assertEqual(rows_slowly("ab", lot.rows), lot.rows)

    def test_edges(self):
        self.assertEqual(NOTHING, lot_of("ab", []).rows)
        self.assertEqual(((True, (1, 1)), (False, (1, 1))), lot_of("ab", [""]).rows)
        self.assertEqual(((False, (1,)), (True, (2,)), (False, (2,))), lot_of("a", ["a", "a"]).rows)
        texts = [("abcdef" * 4)[k % 6:][:20 - k % 3] for k in range(20)]
        self.assertTrue(all(text in lot_of("abcdef", texts) for text in texts))

    def test_errors_in_order(self):
        with self.assertRaises(BadAlphabet) as caught:
            lot_of("b!", ["x"])
        self.assertEqual("b!", caught.exception.alphabet)
        for texts, index in ((["ab", "abx", "y"], 2), (("", "ba "), 2), (["c"], 0)):
            with self.assertRaises(BadLetter) as caught:
                lot_of("ab", texts)
            self.assertEqual(index, caught.exception.index)

    def test_by_name_and_not_changed(self):
        texts = ["b", "a"]
        self.assertEqual(lot_of("ab", ("a", "b")), lot_of(texts=texts, alphabet="ab"))
        self.assertEqual(["b", "a"], texts)


class LotContainingTest(unittest.TestCase):
    def test_by_the_definition(self):
        texts = texts_up_to("ab", 8)
        for word in texts_up_to("ab", 5):
            lot = lot_containing("ab", word)
            self.assertEqual(len(word) + 1, len(lot.rows))
            for text in texts:
                self.assertIs(word in text, text in lot)

    def test_long_words(self):
        source = random.Random(465)
        for word in ("abaababaabaa", "aaaaaaaaaaab", "abcabcabcabd", "dddddddddddd", "ababababacab"):
            lot = lot_containing("abcd", word)
            self.assertEqual(13, len(lot.rows))
            for _ in range(200):
                text = "".join(word[:source.randint(0, 12)] for _ in range(source.randint(0, 6)))
                self.assertIs(word in text, text in lot)

    def test_the_empty_word_and_one_letter(self):
        self.assertEqual(ALL, lot_containing("ab", "").rows)
        self.assertEqual(((True, (0,)),), lot_containing("a", "").rows)
        self.assertEqual(((False, (1,)), (False, (2,)), (True, (2,))), lot_containing("a", "aa").rows)

    def test_errors_in_order(self):
        with self.assertRaises(BadAlphabet):
            lot_containing("", "x")
        with self.assertRaises(BadLetter) as caught:
            lot_containing("ab", "abc")
        self.assertEqual(2, caught.exception.index)

    def test_by_name(self):
        self.assertEqual(lot_containing("ab", "ba"), lot_containing(word="ba", alphabet="ab"))


class LotCountingTest(unittest.TestCase):
    def test_by_the_definition(self):
        texts = texts_up_to("abc", 5)
        for letter in "abc":
            for modulus in (1, 2, 3, 12):
                for rest in range(modulus):
                    lot = lot_counting("abc", letter, rest, modulus)
                    self.assertEqual(modulus, len(lot.rows))
                    for text in texts:
                        self.assertIs(text.count(letter) % modulus == rest, text in lot)

    def test_edges(self):
        self.assertEqual(ALL, lot_counting("ab", "b", 0, 1).rows)
        self.assertEqual(((False, (1,)), (True, (0,))), lot_counting("a", "a", 1, 2).rows)
        self.assertIs(True, "a" * 23 in lot_counting("a", "a", 11, 12))

    def test_errors(self):
        with self.assertRaises(BadAlphabet) as caught:
            lot_counting("ca", "x", 0, 1)
        self.assertEqual("ca", caught.exception.alphabet)
        with self.assertRaises(BadLetter) as caught:
            lot_counting("ab", "c", 0, 1)
        self.assertEqual(0, caught.exception.index)

    def test_by_name_and_again(self):
        first = lot_counting(modulus=3, rest=1, letter="b", alphabet="ab")
        lot_counting("a", "a", 0, 1)
        self.assertEqual(first, lot_counting("ab", "b", 1, 3))


if __name__ == "__main__":
    unittest.main()
