"""Point 50."""

import random
import unittest
from fractions import Fraction

from outpressed.errors import AlphabetsDiffer, TooLarge
from outpressed.lotrates import LotRates, goes_through, lot_rates
from outpressed.lots import Lot, lot_containing, lot_counting, lot_of
from outpressed.machines import Machine
from outpressed.rates import greatest_rate, least_rate
from outpressed.roundruns import rate_on
from outpressed.rounds import Round
from tests.brute import (lot_places_slowly, place_in_rows, raised, random_lots, random_machines, random_round,
                         random_rows, random_rules, texts_up_to)

ALL = Lot("ab", [(True, (0, 0))])
PLAIN = Machine.plain("ab")
UNARY = Machine("ab", [[(0, "0"), (0, "111")]])
FIELDS = ("least", "greatest", "least_round", "greatest_round")


def is_beginning_slowly(lot, text):
    """Whether the text is the beginning of a text of the lot."""
    standing = place_in_rows(lot.alphabet, lot.rows, text)
    found = {standing}
    while True:
        further = {following for place in found for following in lot.rows[place][1]} - found
        if not further:
            return any(lot.rows[place][0] for place in found)
        found |= further


def goes_through_slowly(endless, lot):
    letters = len(endless.head) + len(endless.ring) * (len(lot.rows) + 1)
    return all(is_beginning_slowly(lot, endless.beginning(k)) for k in range(letters + 1))


def rounds_up_to(alphabet, head, ring):
    """All endless texts with at most so many letters in the head and in the ring."""
    return [Round(alphabet, one, two) for one in texts_up_to(alphabet, head) for two in texts_up_to(alphabet, ring)[1:]]


class GoesThroughTest(unittest.TestCase):
    def test_by_the_definition(self):
        source = random.Random(50)
        answers = []
        for lot in random_lots(501, 150, standings=5) + [lot_of("ab", ["abab", "ab"]), lot_containing("abc", "abc")]:
            for _ in range(8):
                endless = random_round(source, lot.alphabet, 4)
                answer = goes_through_slowly(endless, lot)
                self.assertIs(answer, goes_through(endless, lot))
                answers.append(answer)
        self.assertGreater(answers.count(True), 100)
        self.assertGreater(answers.count(False), 100)

    def test_edges(self):
        endless = Round("ab", "b", "ab")
        for lot, told in ((ALL, True), (Lot("ab", [(False, (0, 0))]), False), (lot_of("ab", [""]), False),
                          (lot_of("ab", ["ba" * 10]), False), (~lot_of("ab", ["ba" * 10]), True),
                          (lot_containing("ab", "aaaaaa"), True), (~lot_containing("ab", "baba"), False),
                          (~lot_containing("ab", "bb"), True), (lot_counting("ab", "a", 11, 12), True)):
            self.assertIs(told, goes_through(endless, lot))
        self.assertIs(False, goes_through(lot=~lot_containing("ab", "bb"), endless=Round("ab", "abba", "a")))
        self.assertIs(True, goes_through(Round("a", "", "a"), Lot("a", [(True, [0])])))
        self.assertIs(False, goes_through(Round("a", "", "a"), lot_of("a", ["a" * 20])))

    def test_leaving_only_after_many_rings(self):
        ring = Round("ab", "", "ab")
        for turns in (5, 29):
            rows = [(True, (k + 1 if k % 2 == 0 else 2 * turns + 1, 2 * turns + 1 if k % 2 == 0 else k + 1))
                    for k in range(2 * turns)]
            rows += [(True, (2 * turns + 1,) * 2), (False, (2 * turns + 1,) * 2)]
            self.assertTrue("ab" * turns in Lot("ab", rows) and "ab" * turns + "a" not in Lot("ab", rows))
            self.assertIs(False, goes_through(ring, Lot("ab", rows)))

    def test_alphabets_differ(self):
        self.assertEqual(("ab", "abc"), raised(AlphabetsDiffer, goes_through, Round("ab", "", "a"),
                                               lot_of("abc", ["a"])))


class LotRatesTest(unittest.TestCase):
    def check(self, machine, lot):
        answer = lot_rates(machine, lot)
        self.assertIs(LotRates, type(answer))
        self.assertEqual(set(FIELDS), set(vars(answer)))
        places = len(lot_places_slowly(machine, lot))
        if answer.least is None:
            self.assertEqual([None] * 4, [getattr(answer, field) for field in FIELDS])
            return answer
        for rate, endless in ((answer.least, answer.least_round), (answer.greatest, answer.greatest_round)):
            self.assertIs(Round, type(endless))
            self.assertEqual(rate, rate_on(machine, endless))
            self.assertIs(tuple, type(rate))
            self.assertTrue(goes_through_slowly(endless, lot))
            self.assertLessEqual(len(endless.head), places)
            self.assertLessEqual(len(endless.ring), places)
        return answer

    def test_by_the_definition(self):
        source = random.Random(502)
        finite = 0
        for _ in range(60):
            alphabet = source.choice(["a", "ab", "ab", "abc"])
            size = len(alphabet)
            machine = Machine(alphabet, random_rules(source, size, source.randint(1, 2), 3))
            lot = Lot(alphabet, random_rows(source, size, source.randint(1, 3)))
            answer = self.check(machine, lot)
            # A loop of lot places that is met but once has at most 6 letters; most best ones are shorter.
            rates = [Fraction(*rate_on(machine, endless))
                     for endless in rounds_up_to(alphabet, 2, 6 if size == 1 else 5 if size == 2 else 3)
                     if goes_through(endless, lot)]
            if answer.least is None:
                self.assertEqual([], rates)
                finite += 1
            elif rates:
                self.assertLessEqual(Fraction(*answer.least), min(rates))
                self.assertGreaterEqual(Fraction(*answer.greatest), max(rates))
        self.assertGreater(finite, 8)

    def test_of_all_texts_they_are_the_rates_of_the_machine(self):
        for machine in random_machines(503, 100, standings=5, longest=4):
            lot = Lot(machine.alphabet, [(True, [0] * len(machine.alphabet))])
            answer = self.check(machine, lot)
            self.assertEqual((least_rate(machine).rate, greatest_rate(machine).rate), (answer.least, answer.greatest))

    def test_lots_told_by_hand(self):
        answer = self.check(UNARY, ~lot_containing("ab", "bb"))
        self.assertEqual(((1, 1), (2, 1)), (answer.least, answer.greatest))
        self.assertEqual(("", "a"), (answer.least_round.head, answer.least_round.ring))
        self.assertIn(answer.greatest_round.ring, ("ab", "ba"))
        answer = self.check(UNARY, ~lot_containing("ab", "aa") - lot_of("ab", ["", "b"]))
        self.assertEqual(((2, 1), (3, 1)), (answer.least, answer.greatest))
        # Only b, and then a for ever.
        only = Lot("ab", [(False, (2, 1)), (True, (1, 2)), (False, (2, 2))])
        answer = self.check(UNARY, only)
        self.assertEqual(((1, 1), (1, 1), "b", "a"), (answer.least, answer.greatest, answer.least_round.head,
                                                      answer.greatest_round.ring))
        # What a machine writes before it comes round does not count.
        machine = Machine("ab", [[(1, "0" * 40), (1, "1" * 40)], [(1, "0"), (1, "")]])
        answer = self.check(machine, ALL)
        self.assertEqual(((0, 1), (1, 1)), (answer.least, answer.greatest))

    def test_finitely_many_texts(self):
        for lot in (Lot("ab", [(False, (0, 0))]), lot_of("ab", [""]), lot_of("ab", ["ab", "b", "a" * 20])):
            self.assertIsNone(self.check(UNARY, lot).least)
            self.assertIsNotNone(self.check(UNARY, ~lot).least)

    def test_one_letter(self):
        machine = Machine("a", [[(1, "0")], [(2, "")], [(1, "11")]])
        answer = self.check(machine, lot_counting("a", "a", 0, 5))
        self.assertEqual(((1, 1), (1, 1)), (answer.least, answer.greatest))

    def test_the_bound(self):
        # Rings of 20 and of 19 standings are in 380 lot places, and a beginning adds one for each of its letters.
        lot = Lot("a", [(k == 0, [(k + 1) % 19]) for k in range(19)])
        for letters in (0, 19, 20, 21, 40):
            machine = Machine("a", [[(k + 1 if k < letters + 19 else letters, "0" * (k % 2))]
                                    for k in range(letters + 20)])
            self.assertEqual(380 + letters, len(lot_places_slowly(machine, lot)))
            if letters > 20:
                self.assertEqual((380 + letters,), raised(TooLarge, lot_rates, machine, lot))
            else:
                self.assertEqual((1, 2), self.check(machine, lot).least)

    def test_places_that_lead_nowhere_are_counted_too(self):
        # The machine counts the letters a, so behind k letters of a text of the lot there are k + 1 lot places, and
        # 60 more from which no text comes any more. Errors come before the answer for finitely many texts.
        machine = Machine("ab", [[((k + 1) % 60, "0"), (k, "1")] for k in range(60)])
        for letters, many in ((24, 385), (25, 411)):
            lot = Lot("ab", [(k == letters, [k + 1, k + 1]) for k in range(letters + 1)] + [(False, [letters + 1] * 2)])
            self.assertEqual(many, len(lot_places_slowly(machine, lot)))
            self.assertEqual(many - 60, (letters + 1) * (letters + 2) // 2)
            if many > 400:
                self.assertEqual((many,), raised(TooLarge, lot_rates, machine, lot))
            else:
                self.assertIsNone(self.check(machine, lot).least)

    def test_alphabets_differ_before_the_bound(self):
        machine = Machine("ab", [[((k + 1) % 60, "0"), (0, "")] for k in range(60)])
        self.assertEqual(("ab", "abc"), raised(AlphabetsDiffer, lot_rates, machine, lot_counting("abc", "a", 0, 12)))
        self.assertEqual(("ab", "01"), raised(AlphabetsDiffer, lot_rates, PLAIN, lot_of("01", [])))

    def test_by_name_again_and_beyond(self):
        first = lot_rates(lot=~lot_containing("ab", "bb"), machine=UNARY)
        lot_rates(PLAIN, ALL)
        again = lot_rates(UNARY, ~lot_containing("ab", "bb"))
        self.assertEqual([getattr(first, field) for field in FIELDS], [getattr(again, field) for field in FIELDS])
        # The endless text that is returned may have far more than 60 letters, and may be passed again.
        machine = Machine("a", [[((k + 1) % 390, "0" * (k % 2))] for k in range(390)])
        answer = self.check(machine, Lot("a", [(True, [0])]))
        self.assertEqual((1, 2), answer.least)
        lot = Lot("ab", [(True, (k + 1, 59)) if k < 58 else (k == 58, (0 if k == 58 else 59, 59)) for k in range(60)])
        machine = Machine("ab", [[((k + 1) % 6, "0" * (k == 5)), (0, "")] for k in range(6)])
        answer = self.check(machine, lot)
        self.assertEqual((1, 6), answer.least)
        self.assertIs(True, goes_through(answer.least_round, lot))


if __name__ == "__main__":
    unittest.main()
