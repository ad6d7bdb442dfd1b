"""Points 25 to 27."""

import random
import unittest

from outpressed.errors import TooLarge
from outpressed.holds import hold, is_hold_paper, is_open_paper
from outpressed.machines import Machine
from outpressed.pairs import are_twins, pair_moves, starting_pairs, walk_room
from outpressed.readbacks import comes_back, is_readback_paper
from outpressed.readers import Reader, read_back
from tests.brute import (EXAMPLE, are_tuples, coming_back, fewest_slowly, in_order, is_twin_pair, late_rules,
                         random_machines, random_rules, reached_slowly, readings_slowly, run_slowly, starts_slowly,
                         table_slowly, texts_up_to)


def heights_slowly(machine):
    """The heights of point 26, for a machine without a ring without bits."""
    heights = []
    for standing in range(machine.standings):
        silent = [text for text in texts_up_to(machine.alphabet, machine.standings)
                  if run_slowly(machine, text, standing)[0] == ""]
        heights.append(len(silent[-1]) if standing in reached_slowly(machine) else 0)
    return tuple(heights)


def is_paper_slowly(machine, heights, table):
    """The conditions of point 27, one after the other."""
    if len(heights) != machine.standings:
        return False
    for standing in reached_slowly(machine):
        for following, word in machine.rules[standing]:
            if word == "" and not heights[following] < heights[standing]:
                return False
    if not all(pair in table for *_, pair in starts_slowly(machine) if pair is not None):
        return False
    for pair in table:
        if not all(after in table for *_, after in readings_slowly(machine, pair) if after is not None):
            return False
    return not any(pair[0] == pair[1] and pair[2:] == ("", "") for pair in table)


def sized(room):
    """A machine over two letters with 9 standings, whose room is 81 * 245 or 81 * 247."""
    extra = {81 * 245: "00001", 81 * 247: "000001"}[room]
    words = ["0" * 40, "1" * 40, "01" * 20, extra]
    return Machine("ab", [[((k + 1) % 9, words[k % 4]), (k, words[(k + 1) % 4])] for k in range(9)])


class ComesBackTest(unittest.TestCase):
    def test_the_examples(self):
        answer = comes_back(Machine("ab", EXAMPLE))
        self.assertEqual([True, (1, 0), ((1, 0, "", "1"),)], [answer.holds, answer.heights, answer.table])
        self.assertEqual([None, None], [answer.one, answer.two])
        answer = comes_back(Machine("ab", [[(0, "0"), (0, "00")]]))
        self.assertEqual([False, "b", "aa"], [answer.holds, answer.one, answer.two])
        self.assertEqual([(), ()], [answer.heights, answer.table])

    def check(self, machine, longest):
        answer = comes_back(machine)
        self.assertIsInstance(answer.holds, bool)
        self.assertTrue(are_tuples((answer.heights, answer.table)))
        if answer.holds:
            self.assertIsNone(fewest_slowly(machine, longest))
            self.assertEqual((None, None), (answer.one, answer.two))
            self.assertEqual(tuple(sorted(table_slowly(machine))), answer.table)
            self.assertEqual(heights_slowly(machine), answer.heights)
            self.assertIs(True, is_readback_paper(machine, answer.heights, answer.table))
        else:
            self.assertEqual(((), ()), (answer.heights, answer.table))
            self.assertTrue(is_twin_pair(machine, answer.one, answer.two))
            self.assertEqual([answer.one, answer.two], in_order([answer.one, answer.two]))
            letters = len(answer.one) + len(answer.two)
            fewest = fewest_slowly(machine, min(longest, letters - 1))
            self.assertTrue(fewest is None or fewest >= letters, (machine.rules, fewest, answer.one, answer.two))
        return answer.holds

    def test_by_the_definition(self):
        found = []
        for options, longest in (({"alphabets": ("ab",), "standings": 1, "longest": 5}, 7),
                                 ({"alphabets": ("ab",), "standings": 3, "longest": 2}, 8),
                                 ({"alphabets": ("ab",), "standings": 3, "longest": 4}, 8),
                                 ({"alphabets": ("abc",), "standings": 2, "longest": 4}, 5),
                                 ({"alphabets": ("a",), "standings": 5, "longest": 1}, 30)):
            for machine in random_machines(26, 150, **options):
                found.append(self.check(machine, longest))
        self.assertGreater(found.count(True), 100)
        self.assertGreater(found.count(False), 100)

    def test_twins_far_away(self):
        # The runs part only behind four letters, and meet long after.
        machine = Machine("ab", [[(1, "0"), (0, "1")], [(2, "0"), (0, "11")], [(3, "0"), (0, "111")],
                                 [(4, "00"), (4, "0")], [(5, "1"), (0, "10")], [(0, "0001"), (0, "001")]])
        self.assertFalse(self.check(machine, 9))

    def test_a_near_parting_and_a_far_one(self):
        # Parting at once costs seven letters; two letters later it costs six, those two being read twice.
        machine = Machine("abc", [[(2, "0"), (3, "0"), (1, "1")], [(0, "000"), (0, "0100"), (7, "1")],
                                  [(4, "1"), (0, "0001"), (0, "0010")], [(6, "11"), (0, "00110"), (0, "01010")],
                                  [(5, "1"), (0, "00011"), (0, "01011")], [(0, "1"), (0, "00100"), (0, "01100")],
                                  [(0, "1"), (0, "001011"), (0, "010011")], [(0, "00"), (0, "00"), (0, "01")]])
        self.assertFalse(self.check(machine, 6))
        self.assertEqual(("cca", "ccb"), (comes_back(machine).one, comes_back(machine).two))
        self.assertTrue(is_twin_pair(machine, "aaaa", "baa"))

    def test_a_ring_that_costs_one_letter_more(self):
        machine = Machine("abc", [[(1, ""), (0, "1"), (0, "1")], [(2, ""), (0, "10"), (0, "11")],
                                  [(0, ""), (0, "100"), (0, "101")]])
        self.assertFalse(self.check(machine, 4))
        self.assertEqual(("b", "c"), (comes_back(machine).one, comes_back(machine).two))

    def test_a_ring_and_a_meeting(self):
        # The ring costs 2 * 3 + 1 letters, the meeting 2 * 3 + 2; without the ring it is the meeting.
        rules = [[(1, "0"), (0, "1")], [(2, "0"), (0, "11")], [(3, "0"), (0, "111")], [(3, ""), (3, "")]]
        answer = comes_back(Machine("ab", rules))
        self.assertEqual((False, 7), (answer.holds, len(answer.one) + len(answer.two)))
        rules[3] = [(0, ""), (0, "")]
        answer = comes_back(Machine("ab", rules))
        self.assertEqual((False, 8), (answer.holds, len(answer.one) + len(answer.two)))

    def test_one_letter(self):
        for rules, heights in (([[(0, "0")]], (0,)), ([[(1, "")], [(2, "")], [(0, "1")]], (2, 1, 0)),
                               ([[(1, "")], [(1, "0")], [(2, "")]], (1, 0, 0))):
            answer = comes_back(Machine("a", rules))
            self.assertEqual((True, heights, ()), (answer.holds, answer.heights, answer.table))
        answer = comes_back(Machine("a", [[(1, "1")], [(2, "")], [(1, "")]]))
        self.assertEqual((False, "a", "aaa"), (answer.holds, answer.one, answer.two))
        answer = comes_back(Machine("a", [[(0, "")]]))
        self.assertEqual((False, "", "a"), (answer.holds, answer.one, answer.two))

    def test_what_is_not_reached_does_no_harm(self):
        machine = Machine("ab", [[(0, "0"), (0, "1")], [(1, ""), (1, "")], [(1, ""), (0, "")]])
        answer = comes_back(machine=machine)
        self.assertEqual((True, (0, 0, 0), ()), (answer.holds, answer.heights, answer.table))

    def test_the_same_question_again(self):
        machine = Machine("ab", [[(0, "0"), (0, "00")]])
        first = comes_back(machine)
        comes_back(Machine("ab", EXAMPLE))
        again = comes_back(Machine("ab", [[(0, "0"), (0, "00")]]))
        self.assertEqual((first.one, first.two), (again.one, again.two))


class TooLargeTest(unittest.TestCase):
    def test_who_raises_it(self):
        machine = sized(81 * 247)
        self.assertEqual(81 * 247, walk_room(machine))
        for call in (comes_back, hold, Reader, lambda machine: read_back(machine, "01", 0),
                     lambda machine: read_back(machine, "xy", -5)):
            with self.assertRaises(TooLarge) as caught:
                call(machine)
            self.assertEqual(81 * 247, caught.exception.number)

    def test_who_does_not(self):
        machine = Machine("ab", [[((k + 1) % 60, "0" * 40), (k, "0" * 39)] for k in range(60)])
        self.assertEqual(3600 * 81, walk_room(machine))
        starts = tuple(sorted([((k + 1) % 60, k, "0", "") for k in range(60)]))
        self.assertEqual(starts, starting_pairs(machine))
        self.assertEqual(((1, "a", (1, 1, "", "0" * 39)), (1, "b", (1, 0, "", "0" * 38))),
                         pair_moves(machine, starts[1]))
        self.assertIs(False, is_readback_paper(machine, [0] * 60, starts))
        self.assertIs(False, is_hold_paper(machine, 99, []))
        self.assertIs(False, is_open_paper(machine, "", "a", "a", "b", "b"))
        self.assertIs(False, are_twins(machine, "a", "b"))

    def test_at_the_bound(self):
        machine = sized(81 * 245)
        self.assertEqual(81 * 245, walk_room(machine))
        self.assertIn(comes_back(machine).holds, (True, False))
        for standings, room in ((141, 19881), (142, 20164)):
            ring = Machine("a", [[((k + 1) % standings, "")] for k in range(standings)])
            self.assertEqual(room, walk_room(ring))
            if room > 20000:
                with self.assertRaises(TooLarge) as caught:
                    comes_back(ring)
                self.assertEqual(room, caught.exception.number)
            else:
                self.assertEqual(("", "a" * 141), (comes_back(ring).one, comes_back(ring).two))
        for bits, room in ((9999, 19999), (10000, 20001)):
            long = Machine("ab", [[(0, "0" * (bits - 1) + "1"), (0, "1")]])
            self.assertEqual(room, walk_room(long))
            if room > 20000:
                self.assertRaises(TooLarge, comes_back, long)
            else:
                self.assertIs(True, comes_back(long).holds)

    def test_it_comes_before_the_twins(self):
        ring = Machine("a", [[((k + 1) % 60, "" if k else "0" * 40)] for k in range(60)])
        twins = Machine("ab", [[(0, ""), (1, "0" * 40)]] + [[((k + 1) % 60, "")] * 2 for k in range(1, 60)])
        for machine in (ring, twins):
            for call in (comes_back, hold, Reader, lambda machine: read_back(machine, "2", 0)):
                with self.assertRaises(TooLarge) as caught:
                    call(machine)
                self.assertEqual(3600 * 81, caught.exception.number)

    def test_a_great_walk(self):
        machine = Machine("ab", late_rules(5))
        answer = comes_back(machine)
        self.assertTrue(answer.holds)
        self.assertTrue(len(answer.table) <= walk_room(machine) <= 20000)
        self.assertIs(True, is_readback_paper(machine, answer.heights, answer.table))


class PaperTest(unittest.TestCase):
    def setUp(self):
        self.machines = coming_back(27, 40, alphabets=("ab", "abc"), longest=3) + [
            Machine("ab", late_rules(2)), Machine("ab", EXAMPLE), Machine.plain("abc"), Machine.plain("a")]

    def test_right_papers(self):
        for machine in self.machines:
            answer = comes_back(machine)
            table = list(answer.table)
            for shown in (table, table[::-1], table + table, [list(pair) for pair in table], tuple(table)):
                self.assertIs(True, is_readback_paper(machine, answer.heights, shown))
                self.assertIs(True, is_readback_paper(machine, list(answer.heights), shown))
            moved = [height - 100 for height in answer.heights]
            self.assertIs(True, is_readback_paper(table=table, heights=moved, machine=machine))

    def test_a_pair_is_missing(self):
        for machine in self.machines:
            answer = comes_back(machine)
            for pair in answer.table:
                table = [other for other in answer.table if other != pair]
                self.assertIs(False, is_readback_paper(machine, answer.heights, table))

    def test_heights_are_spoilt(self):
        seen = 0
        for machine in self.machines:
            answer = comes_back(machine)
            self.assertIs(False, is_readback_paper(machine, answer.heights + (0,), answer.table))
            self.assertIs(False, is_readback_paper(machine, answer.heights[1:], answer.table))
            for standing in machine.reached:
                for following, word in machine.rules[standing]:
                    if word == "":
                        heights = list(answer.heights)
                        heights[standing] = heights[following]
                        self.assertIs(False, is_readback_paper(machine, heights, answer.table))
                        seen += 1
            for standing in set(range(machine.standings)) - set(machine.reached):
                heights = list(answer.heights)
                heights[standing] = -7
                self.assertIs(True, is_readback_paper(machine, heights, answer.table))
        self.assertGreater(seen, 10)

    def test_more_pairs_than_needed(self):
        machine = Machine.plain("ab")
        self.assertIs(True, is_readback_paper(machine, [5], []))
        # Without the same lead, both runs read on for ever; with it, they meet.
        self.assertIs(True, is_readback_paper(Machine("ab", [[(0, "00"), (0, "01")]]), [0], [(0, 0, "11", "")]))
        self.assertIs(False, is_readback_paper(machine, [5], [(0, 0, "", "")]))
        self.assertIs(False, is_readback_paper(machine, [5], [(0, 0, "1", "")]))
        self.assertIs(False, is_readback_paper(machine, [5], [(0, 0, "1", ""), (0, 0, "", "")]))
        two = Machine("a", [[(0, "0")], [(1, "")]])
        self.assertIs(True, is_readback_paper(two, [0, 0], [(0, 0, "1", "")]))
        self.assertIs(True, is_readback_paper(two, [0, 0], [(0, 1, "1", "")]))
        self.assertIs(False, is_readback_paper(two, [0, 0], [(0, 1, "", "1"), (1, 1, "", "")]))

    def test_no_paper_for_others(self):
        source = random.Random(270)
        for machine in random_machines(271, 150, alphabets=("ab",), standings=2, longest=2):
            if comes_back(machine).holds:
                continue
            table = table_slowly(machine)
            heights = [source.randint(-2, 3) for _ in range(machine.standings)]
            self.assertIs(False, is_readback_paper(machine, heights, sorted(table)))
            if heights_exist(machine):
                heights = heights_slowly(machine)
            self.assertIs(False, is_readback_paper(machine, heights, sorted(table)))
            self.assertIs(False, is_readback_paper(machine, heights,
                                                   [pair for pair in table if pair[2:] != ("", "")]))

    def test_any_papers_by_the_definition(self):
        source = random.Random(272)
        answers = []
        for _ in range(3000):
            size = source.randint(1, 2)
            machine = Machine("ab"[:size], random_rules(source, size, source.randint(1, 2), 2))
            heights = [source.randint(-1, 1) for _ in range(machine.standings + source.choice((0, 0, 0, 1)))]
            table = set(table_slowly(machine))
            for _ in range(source.randint(0, 2)):
                lead = "".join(source.choice("01") for _ in range(source.randint(0, 2)))
                leads = source.choice([(lead, ""), ("", lead)])
                table.add((source.randrange(machine.standings), source.randrange(machine.standings)) + leads)
            if table and source.random() < 0.3:
                table.remove(source.choice(sorted(table)))
            answer = is_paper_slowly(machine, heights, table)
            self.assertIs(answer, is_readback_paper(machine, heights, sorted(table)))
            answers.append(answer)
        self.assertGreater(answers.count(True), 100)

    def test_nothing_is_changed(self):
        heights, table = [1, 0], [[1, 0, "", "1"]]
        self.assertIs(True, is_readback_paper(Machine("ab", EXAMPLE), heights, table))
        self.assertEqual(([1, 0], [[1, 0, "", "1"]]), (heights, table))


def heights_exist(machine):
    """Whether there is no ring without bits."""
    return not any(run_slowly(machine, text, standing) == ("", standing) for standing in reached_slowly(machine)
                   for text in texts_up_to(machine.alphabet, machine.standings) if text)


if __name__ == "__main__":
    unittest.main()
