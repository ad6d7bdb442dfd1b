"""Points 22 to 25."""

import unittest

from outpressed.errors import BadLetter
from outpressed.machines import Machine
from outpressed.pairs import are_twins, pair_moves, starting_pairs, walk_room
from tests.brute import (EXAMPLE, are_tuples, is_twin_pair, random_machines, readings_slowly, room_slowly,
                         starts_slowly, table_slowly, texts_up_to)


class TwinsTest(unittest.TestCase):
    def test_by_the_definition(self):
        for machine in random_machines(22, 40):
            texts = texts_up_to(machine.alphabet, 3)
            for one in texts:
                for two in texts:
                    self.assertIs(is_twin_pair(machine, one, two), are_twins(machine, one, two))

    def test_edges(self):
        machine = Machine("ab", [[(0, "0"), (0, "00")]])
        self.assertIs(True, are_twins(machine, "aa", "b"))
        self.assertIs(True, are_twins(two="aa", machine=machine, one="b"))
        self.assertIs(False, are_twins(machine, "aa", "aa"))
        self.assertIs(False, are_twins(machine, "", ""))
        self.assertIs(False, are_twins(machine, "a", "b"))
        self.assertIs(False, are_twins(Machine("a", [[(1, "")], [(1, "")]]), "", "a"))
        self.assertIs(True, are_twins(Machine("a", [[(0, "")]]), "", "a"))

    def test_letters_in_order(self):
        machine = Machine.plain("ab")
        for one, two, index in (("x", "x", 0), ("abc", "x", 2), ("ab", "abbx", 3), ("aa?", "", 2), ("", "B", 0)):
            with self.assertRaises(BadLetter) as caught:
                are_twins(machine, one, two)
            self.assertEqual(index, caught.exception.index)


class PairsTest(unittest.TestCase):
    def test_the_example(self):
        machine = Machine("ab", EXAMPLE)
        self.assertEqual([((1, 0, "", "1"),), ()],
                         [starting_pairs(machine), pair_moves(machine, (1, 0, "", "1"))])

    def test_by_the_definition(self):
        for machine in random_machines(24, 250, alphabets=("a", "ab", "abcd"), standings=4, longest=3):
            starts = sorted({pair for *_, pair in starts_slowly(machine)} - {None})
            self.assertEqual(tuple(starts), starting_pairs(machine))
            self.assertTrue(are_tuples(starting_pairs(machine)))
            for pair in table_slowly(machine):
                moves = [(side, letter, after) for side, letter, _, _, after in readings_slowly(machine, pair)
                         if after is not None]
                self.assertEqual(tuple(moves), pair_moves(machine, pair))
                self.assertTrue(are_tuples(pair_moves(machine, pair)))

    def test_both_leads_empty(self):
        machine = Machine("ab", [[(0, "0"), (1, "")], [(1, "11"), (0, "0")]])
        self.assertEqual(((0, "a", (0, 1, "0", "")), (0, "b", (1, 1, "", "")),
                          (1, "a", (0, 1, "", "11")), (1, "b", (0, 0, "", "0"))),
                         pair_moves(machine, (0, 1, "", "")))

    def test_leads_on_either_side(self):
        machine = Machine("ab", [[(0, "0"), (1, "01")], [(1, ""), (0, "0110")]])
        self.assertEqual(((0, "a", (0, 1, "", "1")), (0, "b", (1, 1, "", ""))), pair_moves(machine, (0, 1, "", "01")))
        self.assertEqual(((1, "a", (0, 0, "1", "")), (1, "b", (0, 1, "", ""))), pair_moves(machine, (0, 0, "01", "")))
        self.assertEqual(((1, "a", (0, 1, "01", "")), (1, "b", (0, 0, "", "10"))),
                         pair_moves(machine, [0, 1, "01", ""]))
        self.assertEqual((), pair_moves(Machine.plain("a"), (0, 0, "1", "")))

    def test_pairs_that_are_not_reached(self):
        machine = Machine("a", [[(0, "1")], [(0, "")]])
        self.assertEqual((), starting_pairs(machine))
        self.assertEqual(((0, "a", (0, 1, "", "")), (1, "a", (1, 0, "", ""))), pair_moves(machine, (1, 1, "", "")))
        self.assertEqual(((1, "a", (1, 0, "0101", "")),), pair_moves(machine, (1, 1, "0101", "")))

    def test_a_long_lead(self):
        machine = Machine("ab", [[(0, "01"), (0, "0")]])
        self.assertEqual(((0, "a", (0, 0, "", "01" * 199)), (0, "b", (0, 0, "", "1" + "01" * 199))),
                         pair_moves(pair=[0, 0, "", "01" * 200], machine=machine))

    def test_a_standing_that_is_not_reached_starts_nothing(self):
        machine = Machine("ab", [[(0, "0"), (0, "1")], [(0, "0"), (1, "0")]])
        self.assertEqual((), starting_pairs(machine))
        self.assertEqual(((0, 1, "", ""),),
                         starting_pairs(machine=Machine("ab", [[(1, "0"), (1, "1")], [(0, "0"), (1, "0")]])))

    def test_each_once_and_in_order(self):
        machine = Machine("abc", [[(1, "0"), (0, "0"), (0, "01")], [(1, "0"), (0, "0"), (0, "01")]])
        self.assertEqual(((0, 0, "", "1"), (1, 0, "", ""), (1, 0, "", "1")), starting_pairs(machine))

    def test_a_pair_that_is_passed_is_not_changed(self):
        pair = [0, 0, "", ""]
        machine = Machine("ab", [[(0, "01"), (0, "0")]])
        first = pair_moves(machine, pair)
        self.assertEqual([0, 0, "", ""], pair)
        starting_pairs(machine)
        self.assertEqual(first, pair_moves(machine, tuple(pair)))


class RoomTest(unittest.TestCase):
    def test_by_the_definition(self):
        for machine in random_machines(25, 250, standings=4, longest=6):
            self.assertEqual(room_slowly(machine), walk_room(machine))
            self.assertLessEqual(len(table_slowly(machine)), walk_room(machine))

    def test_edges(self):
        self.assertEqual(1, walk_room(Machine("a", [[(0, "")]])))
        self.assertEqual(3, walk_room(machine=Machine("ab", [[(0, "0"), (0, "0")]])))
        # Ends of words of a standing that is not reached do not count.
        self.assertEqual(3, walk_room(Machine("a", [[(0, "0")], [(0, "1010")]])))
        self.assertEqual(2 * 2 * (2 * 4 + 1), walk_room(Machine("ab", EXAMPLE)))
        self.assertEqual(3600 * 81, walk_room(Machine("a", [[((k + 1) % 60, "0" * 40)] for k in range(60)])))


if __name__ == "__main__":
    unittest.main()
