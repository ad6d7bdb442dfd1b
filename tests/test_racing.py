"""Point 45."""

import random
import unittest

from outpressed.blockmachines import block_machine
from outpressed.blocks import press
from outpressed.errors import AlphabetsDiffer, DoesNotComeBack, TooLarge
from outpressed.holds import hold
from outpressed.machines import Machine
from outpressed.overtaking import overtaken_from
from outpressed.pairs import walk_room
from outpressed.racing import ahead_from
from outpressed.rounds import Round
from tests.brute import EXAMPLE, coming_back, random_round, run_slowly


def ahead_slowly(machine, endless):
    """The least number by the definition, looked for up to the number that point 44 tells."""
    end = overtaken_from(len(machine.alphabet), endless.variety, len(machine.reached))
    text = endless.beginning(end)
    behind = [length for length in range(end)
              if len(press(machine.alphabet, text[:length])) >= len(run_slowly(machine, text[:length])[0])]
    return behind[-1] + 1


def ring_rules(standings, size, words):
    """Standings that follow one another in a ring, whatever is read."""
    return [[((k + 1) % standings, words[place]) for place in range(size)] for k in range(standings)]


class AheadFromTest(unittest.TestCase):
    def test_the_example(self):
        self.assertEqual(7, ahead_from(Machine.plain("a"), Round("a", "", "a")))

    def test_by_the_definition(self):
        source = random.Random(45)
        found = set()
        for machine in coming_back(45, 25, standings=2, longest=2) + [Machine.plain("a"), Machine.plain("ab")]:
            endless = random_round(source, machine.alphabet, 2)
            if overtaken_from(len(machine.alphabet), endless.variety, len(machine.reached)) < 500:
                answer = ahead_from(machine, endless)
                self.assertEqual(ahead_slowly(machine, endless), answer)
                found.add(answer)
        self.assertGreater(len(found), 8)

    def test_longer_words_are_overtaken_earlier(self):
        endless = Round("ab", "", "ab")
        answers = [ahead_from(Machine("ab", [[(0, "0" * k + "1"), (0, "1" * k + "0")]]), endless) for k in range(1, 9)]
        self.assertEqual(sorted(answers, reverse=True), answers)
        # Behind the empty text the block still has bits, so 1 is the least answer.
        self.assertEqual(1, ahead_from(Machine("ab", [[(0, "0" * 40), (0, "1" * 40)]]), endless))

    def test_a_machine_that_is_good_on_its_text_and_bad_on_others(self):
        machine = Machine("ab", [[(0, "0"), (0, "1" * 30)]])
        self.assertEqual(ahead_slowly(machine, Round("ab", "", "a")), ahead_from(machine, Round("ab", "", "a")))
        self.assertLess(ahead_from(machine, Round("ab", "", "b")), 5)
        # Ahead by the dear letter of the head, and behind again for a while.
        machine, endless = Machine("ab", [[(0, "0"), (0, "1" * 8)]]), Round("ab", "b", "a")
        self.assertLess(len(press("ab", "b")), len(machine("b")))
        self.assertEqual(ahead_slowly(machine, endless), ahead_from(machine, endless))
        self.assertGreater(ahead_from(machine, endless), 5)

    def test_long_ways(self):
        for alphabet, standings, ring, end in (("abcdef", 5, "abcd", 19930), ("ab", 4, "aaaaabbab", 19708),
                                               ("a", 12, "a", 2)):
            size = len(alphabet)
            words = [f"{place:03b}" if size > 2 else str(place) for place in range(size)]
            machine = Machine(alphabet, ring_rules(standings, size, words))
            endless = Round(alphabet, "", ring)
            bound = overtaken_from(size, endless.variety, standings)
            if size > 1:
                self.assertEqual(end, bound)
            answer = ahead_from(machine, endless)
            self.assertTrue(1 <= answer <= bound)
            for length, ahead in ((answer - 1, False), (answer, True), (answer + 1, True), (answer + 100, True)):
                text = endless.beginning(length)
                self.assertIs(ahead, len(press(alphabet, text)) < len(machine(text)))

    def test_a_slow_machine(self):
        # Twelve standings, of which only the last one writes: one bit for twelve letters.
        rules = [[((k + 1) % 12, "1" if k == 11 else "")] for k in range(12)]
        machine, endless = Machine("a", rules), Round("a", "", "a")
        self.assertEqual(ahead_slowly(machine, endless), ahead_from(machine, endless))

    def test_too_large(self):
        # Over four letters, with the variety 2 and 8 standings, the number is just above the bound.
        words = ["00", "01", "10", "11"]
        self.assertEqual(20064, overtaken_from(4, 2, 8))
        with self.assertRaises(TooLarge) as caught:
            ahead_from(Machine("abcd", ring_rules(8, 4, words)), Round("abcd", "", "ab"))
        self.assertEqual(20064, caught.exception.number)
        ahead_from(Machine("abcd", ring_rules(7, 4, words)), Round("abcd", "", "ab"))
        with self.assertRaises(TooLarge) as caught:
            ahead_from(Machine("abcdef", ring_rules(12, 6, ["00", "01", "100", "101", "110", "111"])),
                       Round("abcdef", "abcdefabcd", "aabbccddef"))
        self.assertEqual(1134792, caught.exception.number)

    def test_only_reached_standings_count(self):
        rules = [[(0, "0"), (0, "1")]] + [[(0, ""), (0, "")]] * 50
        self.assertEqual(ahead_from(Machine.plain("ab"), Round("ab", "", "ab")),
                         ahead_from(Machine("ab", rules), Round("ab", "", "ab")))

    def test_the_order_of_errors(self):
        twins = [[(0, "0"), (0, "00"), (0, "1"), (0, "11")]]
        roomy = ring_rules(60, 4, ["10", "11", "00", "01"])
        long = Round("abcd", "", "ab")
        for rules in (twins, roomy, ring_rules(8, 4, ["00", "01", "10", "11"])):
            with self.assertRaises(AlphabetsDiffer) as caught:
                ahead_from(Machine("abcd", rules), Round("abc", "", "ab"))
            self.assertEqual(("abcd", "abc"), (caught.exception.one, caught.exception.two))
        with self.assertRaises(TooLarge) as caught:
            ahead_from(Machine("abcd", roomy), long)
        self.assertEqual(walk_room(Machine("abcd", roomy)), caught.exception.number)
        # Twins come before the number of point 44.
        many_twins = ring_rules(8, 4, ["0", "0", "1", "1"])
        for rules in (twins, many_twins):
            with self.assertRaises(DoesNotComeBack) as caught:
                ahead_from(Machine("abcd", rules), long)
            with self.assertRaises(DoesNotComeBack) as told:
                hold(Machine("abcd", rules))
            self.assertEqual((told.exception.one, told.exception.two), (caught.exception.one, caught.exception.two))

    def test_by_name_and_again(self):
        machine, endless = Machine("ab", EXAMPLE), Round("ab", "b", "ab")
        first = ahead_from(endless=endless, machine=machine)
        ahead_from(block_machine("a", 2), Round("a", "", "a"))
        self.assertEqual(first, ahead_from(machine, endless))


if __name__ == "__main__":
    unittest.main()
