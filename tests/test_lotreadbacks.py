"""Point 49."""

import random
import unittest

from outpressed.errors import AlphabetsDiffer, BadLetter, TooLarge
from outpressed.lotcounts import lot_bits, lot_count
from outpressed.lotreadbacks import LotReadback, are_lot_twins, comes_back_on, is_lot_paper, lot_room
from outpressed.lots import Lot, lot_containing, lot_counting, lot_of
from outpressed.machines import Machine
from outpressed.readbacks import comes_back
from tests.brute import (EXAMPLE, are_tuples, compared, fewest_slowly, in_order, late_rules, lot_places_slowly,
                         raised, random_lots, random_machines, random_rows, random_rules, reached_slowly, room_slowly,
                         run_slowly, shared_total_slowly, texts_up_to)

ALL = Lot("ab", [(True, (0, 0))])
NOTHING = Lot("ab", [(False, (0, 0))])
DOUBLE = Machine("ab", [[(0, "0"), (0, "00")]])
SILENT = Machine("ab", [[(0, ""), (1, "1")], [(0, ""), (1, "0")]])


def lot_starts_slowly(machine, lot):
    """All starting pairs, made in every reached lot place."""
    found = set()
    for p, a in lot_places_slowly(machine, lot):
        for j in range(len(lot.alphabet)):
            for i in range(j):
                leads = compared(machine.rules[p][i][1], machine.rules[p][j][1])
                if leads is not None:
                    found.add((machine.rules[p][i][0], lot.rows[a][1][i],
                               machine.rules[p][j][0], lot.rows[a][1][j]) + leads)
    return found


def lot_moves_slowly(machine, lot, pair):
    """All lot pairs that follow by a move."""
    found = set()
    for side in (0, 1):
        if pair[4 + side] != "":
            continue
        for k in range(len(lot.alphabet)):
            after = list(pair)
            after[2 * side], word = machine.rules[pair[2 * side]][k]
            after[2 * side + 1] = lot.rows[pair[2 * side + 1]][1][k]
            after[4 + side] += word
            leads = compared(*after[4:])
            if leads is not None:
                found.add(tuple(after[:4]) + leads)
    return found


def lot_table_slowly(machine, lot):
    """All lot pairs that are reached from a starting pair."""
    table = lot_starts_slowly(machine, lot)
    while True:
        further = {after for pair in table for after in lot_moves_slowly(machine, lot, pair)} - table
        if not further:
            return table
        table |= further


def silent_returns_slowly(machine, lot):
    """Whether there is a silent return."""
    for p, a in lot_places_slowly(machine, lot):
        layer = {(p, a)}
        for _ in range(machine.standings * len(lot.rows)):
            layer = {(following, lot.rows[other][1][k]) for standing, other in layer
                     for k, (following, word) in enumerate(machine.rules[standing]) if word == ""}
            if lot.rows[a][0] and any(standing == p and lot.rows[other][0] for standing, other in layer):
                return True
    return False


def is_paper_slowly(machine, lot, table):
    table = {tuple(pair) for pair in table}
    meetings = [pair for pair in table if pair[0] == pair[2] and pair[4:] == ("", "")
                and lot.rows[pair[1]][0] and lot.rows[pair[3]][0]]
    return not (silent_returns_slowly(machine, lot) or meetings or lot_starts_slowly(machine, lot) - table
                or any(lot_moves_slowly(machine, lot, pair) - table for pair in table))


def pairs_of_all_sorts(seed, many):
    """Machines and lots over one alphabet."""
    source = random.Random(seed)
    for _ in range(many):
        alphabet = source.choice(["a", "ab", "ab", "abc"])
        yield (Machine(alphabet, random_rules(source, len(alphabet), source.randint(1, 3), source.randint(1, 3))),
               Lot(alphabet, random_rows(source, len(alphabet), source.randint(1, 4))))


class ComesBackOnTest(unittest.TestCase):
    def check(self, machine, lot, longest):
        answer = comes_back_on(machine, lot)
        self.assertEqual({"holds", "table", "one", "two"}, set(vars(answer)))
        self.assertIs(LotReadback, type(answer))
        self.assertIs(bool, type(answer.holds))
        self.assertTrue(are_tuples(answer.table))
        if answer.holds:
            self.assertEqual((None, None), (answer.one, answer.two))
            self.assertEqual(tuple(sorted(lot_table_slowly(machine, lot))), answer.table)
            self.assertLessEqual(len(answer.table), lot_room(machine, lot))
            self.assertIs(True, is_lot_paper(machine, lot, answer.table))
            self.assertIsNone(fewest_slowly(machine, longest, lot))
        else:
            self.assertEqual((), answer.table)
            self.assertTrue(answer.one in lot and answer.two in lot and answer.one != answer.two)
            self.assertEqual(run_slowly(machine, answer.one), run_slowly(machine, answer.two))
            self.assertEqual([answer.one, answer.two], in_order([answer.one, answer.two]))
            self.assertIs(True, are_lot_twins(machine, lot, answer.one, answer.two))
            letters = len(answer.one) + len(answer.two)
            fewest = fewest_slowly(machine, min(longest, letters), lot)
            self.assertTrue(fewest is None or fewest >= letters, (machine.rules, lot.rows, fewest, letters))
        return answer.holds

    def test_by_the_definition(self):
        found = [self.check(machine, lot, 5 if machine.alphabet == "abc" else 7)
                 for machine, lot in pairs_of_all_sorts(49, 500)]
        self.assertGreater(found.count(True), 100)
        self.assertGreater(found.count(False), 100)

    def test_by_letters_that_are_told_late(self):
        for lot in (ALL, lot_counting("ab", "a", 1, 2), lot_containing("ab", "aab"), NOTHING):
            self.assertTrue(self.check(Machine("ab", late_rules(2)), lot, 6))

    def test_no_text_the_empty_text_and_few_texts(self):
        for machine in (DOUBLE, SILENT, Machine("ab", [[(0, ""), (0, "")]])):
            self.assertFalse(comes_back(machine).holds)
            self.assertTrue(self.check(machine, NOTHING, 5))
            self.assertTrue(self.check(machine, lot_of("ab", [""]), 5))
            self.assertTrue(self.check(machine, lot_of("ab", ["ab"]), 5))
            self.assertFalse(self.check(machine, ALL, 5))
        self.assertTrue(self.check(DOUBLE, lot_of("ab", ["", "a", "b", "ab"]), 5))
        self.assertFalse(self.check(DOUBLE, lot_of("ab", ["ba", "ab"]), 5))
        answer = comes_back_on(DOUBLE, lot_of("ab", ["ba", "ab", "bbaa", "aaaaaa"]))
        self.assertEqual((False, "ab", "ba"), (answer.holds, answer.one, answer.two))

    def test_a_silent_return(self):
        # Behind one a and behind two, the machine is in one standing, without a bit between them.
        self.assertTrue(self.check(SILENT, lot_of("ab", ["a", "b"]), 5))
        answer = comes_back_on(SILENT, lot_of("ab", ["bba", "bbaaa", "aaaaaaa", "b"]))
        self.assertEqual((False, "bba", "bbaaa"), (answer.holds, answer.one, answer.two))
        silent = Machine("a", [[(1, "")], [(2, "")], [(0, "")]])
        self.assertTrue(self.check(silent, lot_of("a", ["", "a", "aa"]), 9))
        self.assertTrue(self.check(silent, lot_of("a", ["", "a" * 7, "aa"]), 9))
        self.assertFalse(self.check(silent, lot_of("a", ["a", "a" * 7]), 9))
        answer = comes_back_on(silent, lot_counting("a", "a", 1, 2))
        self.assertEqual((False, "a", "a" * 7), (answer.holds, answer.one, answer.two))

    def test_a_return_that_is_not_the_nearest_place(self):
        # The lot takes "b" and what follows it by four or six letters, but not by two.
        lot = lot_of("ab", ["b", "baaaa", "baaaaaa"])
        machine = Machine("ab", [[(1, ""), (0, "1")], [(0, ""), (1, "1")]])
        answer = comes_back_on(machine, lot)
        self.assertEqual((False, "b", "baaaa"), (answer.holds, answer.one, answer.two))

    def test_a_meeting_before_a_return_and_behind_it(self):
        machine = Machine("ab", [[(0, ""), (0, "")]])
        self.assertEqual(("a", "b"), tuple([getattr(comes_back_on(machine, lot_of("ab", ["a", "b", "aba"])), field)
                                            for field in ("one", "two")]))
        self.assertEqual(("", "a"), tuple([getattr(comes_back_on(machine, lot_of("ab", ["a", "b", ""])), field)
                                           for field in ("one", "two")]))

    def test_all_texts_are_as_without_a_lot(self):
        for machine in random_machines(491, 150, alphabets=("ab", "abc"), longest=3):
            lot = Lot(machine.alphabet, [(True, [0] * len(machine.alphabet))])
            without, answer = comes_back(machine), comes_back_on(machine, lot)
            self.assertEqual(without.holds, answer.holds)
            self.assertEqual(room_slowly(machine), lot_room(machine, lot))
            if answer.holds:
                self.assertEqual(without.table, tuple((p, q, one, two) for p, _, q, _, one, two in answer.table))
            else:
                self.assertEqual(len(without.one + without.two), len(answer.one + answer.two))

    def test_on_parts_of_a_lot_and_bits(self):
        seen = 0
        for machine, lot in pairs_of_all_sorts(492, 150):
            for part in (lot & other for other in random_lots(493, 2, alphabets=(lot.alphabet,))):
                if comes_back_on(machine, lot).holds:
                    self.assertTrue(comes_back_on(machine, part).holds)
                    seen += 1
            if comes_back_on(machine, lot).holds:
                for length in range(5):
                    self.assertGreaterEqual(lot_bits(machine, lot, length),
                                            shared_total_slowly(lot_count(lot, length), len(reached_slowly(machine))))
        self.assertGreater(seen, 50)

    def test_one_letter(self):
        for machine in random_machines(494, 60, alphabets=("a",), standings=4, longest=1):
            for lot in random_lots(495, 5, alphabets=("a",)):
                self.check(machine, lot, 40)

    def test_standings_that_are_not_reached(self):
        machine = Machine("ab", [[(0, "0"), (0, "1")], [(1, ""), (0, "0")]])
        self.assertEqual((True, ()), (comes_back_on(machine, ALL).holds, comes_back_on(machine, ALL).table))
        # The lot place (0, 1) is not reached: the lot is in its standing 1 just behind an odd number of letters.
        machine = Machine("a", [[(1, "0")], [(0, "1")]])
        self.assertEqual(2, len(lot_places_slowly(machine, lot_counting("a", "a", 1, 2))))
        self.assertEqual(4, lot_room(machine, lot_counting("a", "a", 1, 2)) // 5)

    def test_by_name_and_again(self):
        first = comes_back_on(lot=ALL, machine=DOUBLE)
        comes_back_on(DOUBLE, NOTHING)
        again = comes_back_on(Machine("ab", [[(0, "0"), (0, "00")]]), Lot("ab", [[True, [0, 0]]]))
        self.assertEqual(vars(first), vars(again))


class RoomTest(unittest.TestCase):
    def test_by_the_definition(self):
        for machine, lot in pairs_of_all_sorts(496, 200):
            reached = len(reached_slowly(machine))
            ends = room_slowly(machine) // reached ** 2
            self.assertEqual(len(lot_places_slowly(machine, lot)) ** 2 * ends, lot_room(machine, lot))
        self.assertEqual(9 * 27, lot_room(lot=lot_counting("ab", "a", 0, 3), machine=Machine("ab", [
            [(0, "0110"), (0, "000011001")]])))

    def test_around_the_bound(self):
        # No room is exactly 20,000, as no N * N * odd is: 141 and 142 lot places are the nearest ones without bits.
        ring = Machine("a", [[((k + 1) % 71, "")] for k in range(71)])
        for letters, room in ((70, 19881), (71, 20164)):
            lot = Lot("a", [(k == letters, [min(k + 1, letters)]) for k in range(letters + 1)])
            self.assertEqual(room, lot_room(ring, lot))
            if room > 20000:
                self.assertEqual((room,), raised(TooLarge, comes_back_on, ring, lot))
            else:
                answer = comes_back_on(ring, lot)
                self.assertEqual((False, "a" * 70, "a" * 141), (answer.holds, answer.one, answer.two))

    def test_just_beyond_with_bits(self):
        for bits, room in ((9999, 19999), (10000, 20001)):
            machine = Machine("ab", [[(0, "0" * (bits - 1) + "1"), (0, "1")]])
            self.assertEqual(room, lot_room(machine, ALL))
            if room > 20000:
                self.assertEqual((room,), raised(TooLarge, comes_back_on, machine, ALL))
            else:
                self.assertIs(True, comes_back_on(machine, ALL).holds)

    def test_no_bound_for_the_others(self):
        machine = Machine("ab", [[((k + 1) % 60, "0" * 40), (k * 7 % 60, "1" * 39)] for k in range(60)])
        lot = Lot("ab", [(k == 59, ((k + 1) % 60, (k * 11 + 3) % 60)) for k in range(60)])
        self.assertEqual(60, len(lot.rows))
        self.assertEqual(len(lot_places_slowly(machine, lot)) ** 2 * 159, lot_room(machine, lot))
        self.assertIs(True, is_lot_paper(machine, lot, []))
        self.assertIs(False, are_lot_twins(machine, lot, "a", "b"))
        silent = Machine("ab", [[((k + 1) % 60, ""), (k * 7 % 60, "")] for k in range(60)])
        self.assertIs(False, is_lot_paper(silent, lot, []))


class TwinsTest(unittest.TestCase):
    def test_by_the_definition(self):
        found = []
        for machine, lot in pairs_of_all_sorts(497, 40):
            texts = texts_up_to(machine.alphabet, 3)
            for one in texts:
                for two in texts:
                    told = (one != two and one in lot and two in lot
                            and run_slowly(machine, one) == run_slowly(machine, two))
                    self.assertIs(told, are_lot_twins(machine, lot, one, two))
                    found.append(told)
        self.assertGreater(found.count(True), 50)
        self.assertIs(True, are_lot_twins(two="b", one="aa", lot=ALL, machine=DOUBLE))

    def test_errors_in_order(self):
        lot = lot_of("bc", ["b"])
        self.assertEqual(("ab", "bc"), raised(AlphabetsDiffer, are_lot_twins, DOUBLE, lot, "xx", "yy"))
        self.assertEqual((1,), raised(BadLetter, are_lot_twins, DOUBLE, NOTHING, "ac", "c"))
        self.assertEqual((0,), raised(BadLetter, are_lot_twins, DOUBLE, ALL, "aa", "cb"))
        self.assertEqual((3,), raised(BadLetter, are_lot_twins, DOUBLE, ALL, "aab ", "aab "))


class ErrorsTest(unittest.TestCase):
    def test_alphabets_differ_before_all(self):
        large = Machine("ab", [[((k + 1) % 60, "0" * 40), (k, "")] for k in range(60)])
        for machine in (DOUBLE, large):
            for lot in (lot_of("abc", ["a"]), lot_of("01", ["1"])):
                for call in (lot_room, comes_back_on, lambda one, two: is_lot_paper(one, two, []),
                             lambda one, two: is_lot_paper(one, two, [(0, 0, 0, 0, "", "")])):
                    self.assertEqual(("ab", lot.alphabet), raised(AlphabetsDiffer, call, machine, lot))

    def test_too_large(self):
        large = Machine("ab", [[((k + 1) % 60, "0" * 40), (k, "")] for k in range(60)])
        self.assertEqual((3600 * 81,), raised(TooLarge, comes_back_on, large, ALL))


class PaperTest(unittest.TestCase):
    def setUp(self):
        self.pairs = [(machine, lot) for machine, lot in pairs_of_all_sorts(498, 200)
                      if comes_back_on(machine, lot).holds]

    def test_right_papers_in_all_forms(self):
        for machine, lot in self.pairs:
            table = list(comes_back_on(machine, lot).table)
            for shown in (table, table[::-1], table + table, [list(pair) for pair in table], tuple(table)):
                self.assertIs(True, is_lot_paper(machine, lot, shown))
        self.assertIs(True, is_lot_paper(table=[], lot=ALL, machine=Machine("ab", [[(0, "0"), (0, "1")]])))

    def test_a_pair_is_missing(self):
        seen = 0
        for machine, lot in self.pairs:
            table = comes_back_on(machine, lot).table
            for pair in table[:12]:
                self.assertIs(False, is_lot_paper(machine, lot, [other for other in table if other != pair]))
                seen += 1
        self.assertGreater(seen, 200)

    def test_a_meeting_matters_only_where_both_accept(self):
        machine = Machine("ab", [[(0, "0"), (0, "1")]])
        lot = lot_of("ab", ["a"])
        self.assertEqual(((False, (1, 2)), (True, (2, 2)), (False, (2, 2))), lot.rows)
        # From a pair without leads, both runs may read the same, so all pairs of standings follow.
        apart = [(0, a, 0, b, one, two) for a in range(3) for b in range(3)
                 for one, two in (("", ""), ("0", ""), ("1", ""), ("", "0"), ("", "1"))]
        self.assertIs(False, is_lot_paper(machine, lot, apart))
        dead = [(0, 2, 0, 2, one, two) for one, two in (("", ""), ("0", ""), ("1", ""), ("", "0"), ("", "1"))]
        self.assertIs(True, is_lot_paper(machine, lot, dead))
        self.assertIs(False, is_lot_paper(machine, lot, dead[1:]))
        self.assertIs(False, is_lot_paper(machine, lot, dead + [(0, 1, 0, 1, "", "")]))
        # One run in the accepting standing and the other one beyond it do not meet, and a lead is no meeting.
        beside = [(0, 1, 0, 2, one, two) for one, two in (("", ""), ("0", ""), ("1", ""), ("", "0"), ("", "1"))]
        self.assertIs(True, is_lot_paper(machine, lot, dead + beside))
        self.assertIs(True, is_lot_paper(machine, lot, dead + beside + [(0, 1, 0, 1, "10", ""), (0, 1, 0, 2, "0", "")]))

    def test_any_papers_by_the_definition(self):
        source = random.Random(499)
        answers = []
        for machine, lot in pairs_of_all_sorts(500, 1500):
            table = lot_table_slowly(machine, lot)
            for _ in range(source.randint(0, 2)):
                lead = "".join(source.choice("01") for _ in range(source.randint(0, 2)))
                table.add((source.randrange(machine.standings), source.randrange(len(lot.rows)),
                           source.randrange(machine.standings), source.randrange(len(lot.rows)))
                          + source.choice([(lead, ""), ("", lead)]))
            if table and source.random() < 0.3:
                table.remove(source.choice(sorted(table)))
            answer = is_paper_slowly(machine, lot, table)
            self.assertIs(answer, is_lot_paper(machine, lot, [list(pair) for pair in sorted(table)]))
            answers.append(answer)
        self.assertGreater(answers.count(True), 200)
        self.assertGreater(answers.count(False), 200)

    def test_no_paper_where_they_do_not_come_back(self):
        seen = 0
        for machine, lot in pairs_of_all_sorts(501, 300):
            if not comes_back_on(machine, lot).holds:
                table = lot_table_slowly(machine, lot)
                self.assertIs(False, is_lot_paper(machine, lot, sorted(table)))
                self.assertIs(False, is_lot_paper(machine, lot, [pair for pair in table if pair[4:] != ("", "")]))
                seen += 1
        self.assertGreater(seen, 60)

    def test_nothing_is_changed(self):
        table = [[1, 0, 0, 0, "", "1"]]
        self.assertIs(True, is_lot_paper(Machine("ab", EXAMPLE), ALL, table))
        self.assertEqual([[1, 0, 0, 0, "", "1"]], table)


if __name__ == "__main__":
    unittest.main()
