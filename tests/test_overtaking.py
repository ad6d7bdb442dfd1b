"""Point 44."""

import random
import unittest

from outpressed.blocks import pressed_length
from outpressed.cuts import cut_of
from outpressed.overtaking import overtaken_from
from outpressed.roundruns import bits_on
from outpressed.stretches import fill, fill_evenly
from tests.brute import coming_back, random_round

ALL = [(size, variety, standings) for size in range(1, 7) for variety in range(1, 21) for standings in range(1, 13)]


def is_ahead(size, variety, standings, length):
    """Whether pressed_length(size, K(length)) is less than the whole part of length / standings."""
    return pressed_length(size, fill_evenly(length, 1, variety)) < length // standings


class OvertakenFromTest(unittest.TestCase):
    @classmethod
    def setUpClass(cls):
        cls.answers = {arguments: overtaken_from(*arguments) for arguments in ALL}

    def test_the_example(self):
        self.assertEqual(24, overtaken_from(2, 1, 1))

    def test_small_ones_by_the_definition(self):
        for size, variety, standings in ((1, 1, 1), (1, 2, 1), (1, 1, 2), (1, 20, 1), (2, 1, 1), (3, 2, 1), (2, 2, 2)):
            answer = overtaken_from(size, variety, standings)
            reach = 6 * answer + 100
            behind = [length for length in range(reach)
                      if pressed_length(size, fill(length, [variety] * length)) >= length // standings]
            self.assertEqual(behind[-1] + 1, answer)

    def test_all_ends(self):
        for (size, variety, standings), answer in self.answers.items():
            self.assertFalse(is_ahead(size, variety, standings, answer - 1), (size, variety, standings))
            for length in list(range(answer, answer + 10)) + [answer * k // 7 for k in range(8, 22, 2)]:
                self.assertTrue(is_ahead(size, variety, standings, length), (size, variety, standings, length))

    def test_everything_behind_the_end(self):
        # Between two steps of K only the first length is the worst one.
        source = random.Random(44)
        for size, variety, standings in source.sample(ALL, 40):
            answer = self.answers[size, variety, standings]
            length, count = answer, fill_evenly(answer, 1, variety)
            while length < 5 * answer:
                self.assertTrue(is_ahead(size, variety, standings, length), (size, variety, standings, length))
                length, count = length + count // variety + 1, count + 1

    def test_it_grows_with_each_argument(self):
        for (size, variety, standings), answer in self.answers.items():
            for before in ((size, variety - 1, standings), (size, variety, standings - 1)):
                self.assertLess(self.answers.get(before, 0), answer)

    def test_the_greatest_one(self):
        self.assertEqual(1134792, overtaken_from(6, 20, 12))

    def test_every_machine_is_overtaken(self):
        source = random.Random(441)
        for machine in coming_back(441, 40, standings=3, longest=2):
            endless = random_round(source, machine.alphabet, 3)
            size, reached = len(machine.alphabet), len(machine.reached)
            answer = overtaken_from(size, endless.variety, reached)
            for length in [answer, answer + 1, answer + 17, 2 * answer, 3 * answer]:
                if length <= 20000:
                    count = cut_of(machine.alphabet, endless.beginning(length)).many
                    self.assertLess(pressed_length(size, count), bits_on(machine, endless, length))

    def test_by_name_and_again(self):
        first = overtaken_from(standings=2, variety=3, size=4)
        overtaken_from(1, 1, 1)
        self.assertEqual(first, overtaken_from(4, 3, 2))


if __name__ == "__main__":
    unittest.main()
