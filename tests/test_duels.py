"""Point 37, and what point 35 says of texts."""

import random
import unittest

from outpressed.blocks import press
from outpressed.blockmachines import block_machine
from outpressed.cuts import cut_of
from outpressed.duels import Duel, duel
from outpressed.errors import BadLetter, DoesNotComeBack, TooLarge
from outpressed.excesses import told_excess
from outpressed.floors import floor_bits
from outpressed.machines import Machine
from outpressed.pairs import are_twins, walk_room
from outpressed.readbacks import comes_back
from tests.brute import EXAMPLE, coming_back, run_slowly

FIELDS = ["length", "pieces", "standings", "machine_bits", "presser_bits", "floor", "told", "lead"]
TWINS = [[(0, "0"), (0, "00")]]
# 60 standings and four ends: a room of 60 * 60 * 9.
ROOMY = [[((k + 1) % 60, "10"), (0, "11")] for k in range(60)]


class DuelTest(unittest.TestCase):
    def test_the_example(self):
        answer = duel(Machine("ab", EXAMPLE), "aabab")
        self.assertEqual([5, 2, 2, 5, 9, 1, 13, 4], [getattr(answer, field) for field in FIELDS])
        self.assertIsInstance(answer, Duel)

    def check(self, machine, text):
        answer = duel(machine, text)
        bits = len(run_slowly(machine, text)[0])
        block = len(press(machine.alphabet, text))
        pieces = cut_of(machine.alphabet, text).many
        reached = len(machine.reached)
        self.assertEqual([len(text), pieces, reached, bits, block, floor_bits(reached, pieces),
                          told_excess(len(machine.alphabet), reached, pieces), block - bits],
                         [getattr(answer, field) for field in FIELDS])
        self.assertTrue(all(isinstance(getattr(answer, field), int) for field in FIELDS))
        self.assertLessEqual(answer.floor, answer.machine_bits)
        self.assertLessEqual(answer.lead, answer.told)

    def test_by_the_definition(self):
        source = random.Random(37)
        for machine in coming_back(37, 60, standings=4, longest=3) + [block_machine("ab", 3), Machine.plain("a")]:
            for length in (0, 1, 2, 10, 100, 400):
                self.check(machine, "".join(source.choice(machine.alphabet) for _ in range(length)))
            self.check(machine, machine.alphabet[-1] * 100)

    def test_the_empty_text(self):
        answer = duel(Machine.plain("ab"), "")
        self.assertEqual([0, 0, 1, 0, 2, 0, 3, 2], [getattr(answer, field) for field in FIELDS])

    def test_the_lead_may_be_below_0(self):
        answer = duel(Machine.plain("ab"), "a" * 400)
        self.assertEqual((400, len(press("ab", "a" * 400)) - 400), (answer.machine_bits, answer.lead))
        self.assertLess(answer.lead, 0)

    def test_only_reached_standings_count(self):
        machine = Machine("ab", [[(0, "0"), (0, "1")], [(1, ""), (1, "")]])
        self.assertEqual(1, duel(machine, "abba").standings)

    def test_machines_in_a_row(self):
        first, second = Machine("ab", EXAMPLE), Machine("01", [[(1, "0"), (0, "11")], [(0, "1"), (1, "00")]])
        self.assertTrue(comes_back(first).holds and comes_back(second).holds)
        source = random.Random(371)
        for _ in range(20):
            self.check(first >> second, "".join(source.choice("ab") for _ in range(60)))

    def test_twins(self):
        for rules in (TWINS, [[(0, ""), (0, "1")]], [[(1, "0"), (1, "0")], [(0, "0"), (1, "1")]]):
            machine = Machine("ab", rules)
            with self.assertRaises(DoesNotComeBack) as caught:
                duel(machine, "ab")
            told = comes_back(machine)
            self.assertEqual((told.one, told.two), (caught.exception.one, caught.exception.two))
            self.assertTrue(are_twins(machine, caught.exception.one, caught.exception.two))

    def test_too_much_room(self):
        machine = Machine("ab", ROOMY)
        self.assertEqual(32400, walk_room(machine))
        with self.assertRaises(TooLarge) as caught:
            duel(machine, "ab")
        self.assertEqual(32400, caught.exception.number)

    def test_the_order_of_errors(self):
        roomy_twins = Machine("ab", [[((k + 1) % 60, "11"), (0, "11")] for k in range(59)] + [[(0, "10"), (0, "10")]])
        with self.assertRaises(TooLarge) as caught:
            duel(roomy_twins, "ab")
        self.assertEqual(walk_room(roomy_twins), caught.exception.number)
        for rules in (TWINS, ROOMY, EXAMPLE):
            with self.assertRaises(BadLetter) as caught:
                duel(Machine("ab", rules), "abc a")
            self.assertEqual(2, caught.exception.index)

    def test_by_name_and_again(self):
        machine = Machine("ab", EXAMPLE)
        first = vars(duel(text="abba", machine=machine))
        duel(Machine.plain("abc"), "cab")
        self.assertEqual(first, vars(duel(machine, "abba")))


if __name__ == "__main__":
    unittest.main()
