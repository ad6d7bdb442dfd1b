"""Point 43."""

import random
import unittest
from fractions import Fraction

from outpressed.machines import Machine
from outpressed.rates import Rate, greatest_rate, is_rate_paper, least_rate
from outpressed.roundruns import rate_on
from outpressed.rounds import Round
from tests.brute import (EXAMPLE, are_tuples, coming_back, late_rules, random_machines, random_rules, reached_slowly,
                         run_slowly, texts_up_to)

SIDES = (("least", least_rate, min), ("greatest", greatest_rate, max))


def rates_slowly(machine):
    """All rates of loops with at most as many letters as the machine has standings."""
    found = set()
    for standing in reached_slowly(machine):
        for text in texts_up_to(machine.alphabet, machine.standings)[1:]:
            bits, last = run_slowly(machine, text, standing)
            if last == standing:
                found.add(Fraction(len(bits), len(text)))
    return found


def is_paper_slowly(machine, side, rate, levels):
    if len(levels) != machine.standings:
        return False
    for standing in reached_slowly(machine):
        for following, word in machine.rules[standing]:
            one, two = rate[1] * len(word) - rate[0], levels[following] - levels[standing]
            if one < two and side == "least" or one > two and side == "greatest":
                return False
    return True


class RateTest(unittest.TestCase):
    def test_the_example(self):
        machine = Machine("ab", [[(0, "0"), (0, "10")]])
        self.assertEqual([(1, 1), (2, 1)], [least_rate(machine).rate, greatest_rate(machine).rate])

    def check(self, machine):
        """The loop and the levels by the definitions; the least and the greatest rate."""
        rates = []
        for side, function, _ in SIDES:
            told = function(machine)
            self.assertIsInstance(told, Rate)
            self.assertEqual({"rate", "standing", "loop", "levels"}, set(vars(told)))
            self.assertIn(told.standing, machine.reached)
            self.assertTrue(1 <= len(told.loop) <= machine.standings)
            bits, last = run_slowly(machine, told.loop, told.standing)
            self.assertEqual(told.standing, last)
            rate = Fraction(len(bits), len(told.loop))
            self.assertEqual((rate.numerator, rate.denominator), told.rate)
            self.assertTrue(are_tuples(told.levels) and all(type(level) is int for level in told.levels))
            self.assertTrue(is_paper_slowly(machine, side, told.rate, told.levels))
            self.assertIs(True, is_rate_paper(machine, side, told.rate, told.levels))
            rates.append(rate)
        return rates

    def test_by_all_short_loops(self):
        found = set()
        for machine in random_machines(43, 250, alphabets=("a", "ab"), standings=5, longest=3):
            rates = rates_slowly(machine)
            self.assertEqual([min(rates), max(rates)], self.check(machine))
            found.add(len(rates))
        self.assertTrue({1, 2, 3, 5} <= found)

    def test_machines_with_many_standings(self):
        source = random.Random(431)
        for size, standings, longest in ((1, 60, 5), (2, 60, 1), (2, 60, 40), (3, 60, 7), (6, 60, 40), (6, 10, 0)):
            for _ in range(5):
                self.check(Machine("abcdef"[:size], random_rules(source, size, standings, longest)))

    def test_known_ones(self):
        for rules, least, greatest in (
                ([[(0, "")]], (0, 1), (0, 1)), ([[(0, "101")]], (3, 1), (3, 1)), ([[(1, "1")], [(1, "")]], (0, 1), (0, 1)),
                ([[(1, "1")], [(2, "")], [(0, "")]], (1, 3), (1, 3)), ([[(1, "")], [(2, "11")], [(1, "")]], (1, 1), (1, 1))):
            machine = Machine("a", rules)
            self.assertEqual([Fraction(*least), Fraction(*greatest)], self.check(machine))
        self.assertEqual([1, 1], self.check(Machine("ab", EXAMPLE)))
        # The only cheap ring is far away, and the way to it is dear.
        far = [[((k + 1) % 60, "1" * 40), (0, "1" * 7)] for k in range(60)]
        far[59] = [(59, "1" * 6), (0, "1" * 41)]
        self.assertEqual([6, Fraction(59 * 40 + 41, 60)], self.check(Machine("ab", far)))

    def test_rings_with_as_many_letters_as_standings(self):
        for standings in (1, 2, 3, 59, 60):
            rules = [[((k + 1) % standings, "1" if k else "11")] for k in range(standings)]
            self.assertEqual([Fraction(standings + 1, standings)] * 2, self.check(Machine("a", rules)))

    def test_standings_that_are_not_reached(self):
        # The standings 1 and 2 would have lesser and greater rates.
        machine = Machine("ab", [[(0, "1"), (0, "00")], [(1, ""), (0, "")], [(2, "1" * 9), (1, "")]])
        self.assertEqual([1, 2], self.check(machine))
        self.assertEqual(3, len(least_rate(machine).levels))

    def test_loops_behind_a_way_that_is_not_a_loop(self):
        machine = Machine("a", [[(1, "1" * 9)], [(2, "")], [(1, "1")]])
        self.assertEqual([Fraction(1, 2)] * 2, self.check(machine))

    def test_machines_in_a_row(self):
        one = Machine("ab", [[((k + 1) % 59, "01"[k % 2]), ((k + 7) % 59, "1")] for k in range(59)])
        two = Machine("01", [[((k + 1) % 60, "0" * (k % 5)), ((k * 7) % 60, "1")] for k in range(60)])
        machine = one >> two
        self.assertGreater(machine.standings, 1000)
        self.check(machine)
        # All steps but one lead back by one: a ring through all standings.
        many = 3540
        self.check(Machine("ab", [[((k - 1) % many, "0" * (k % 11)), (many - 1, "0" * 12)] for k in range(many)]))

    def test_if_the_texts_come_back(self):
        for machine in coming_back(432, 40, standings=4, longest=3) + [Machine("ab", late_rules(2))]:
            least, greatest = self.check(machine)
            self.assertGreaterEqual(least, Fraction(1, len(machine.reached)))
            self.assertGreaterEqual(2 ** greatest.numerator, len(machine.alphabet) ** greatest.denominator)

    def test_no_endless_text_is_outside(self):
        source = random.Random(433)
        for machine in random_machines(434, 60, alphabets=("ab",), standings=5):
            least, greatest = self.check(machine)
            for _ in range(20):
                ring = "".join(source.choice("ab") for _ in range(source.randint(1, 8)))
                self.assertTrue(least <= Fraction(*rate_on(machine, Round("ab", "", ring))) <= greatest)
            for told in (least_rate(machine), greatest_rate(machine)):
                road = next(text for text in texts_up_to("ab", 5) if machine.last_after(text) == told.standing)
                self.assertEqual(told.rate, rate_on(machine, Round("ab", road, told.loop)))

    def test_by_name_and_again(self):
        machine = Machine("ab", random_rules(random.Random(435), 2, 9, 4))
        for _, function, _ in SIDES:
            first = vars(function(machine=machine))
            function(Machine.plain("abc"))
            self.assertEqual(first, vars(function(Machine("ab", machine.rules))))


class RatePaperTest(unittest.TestCase):
    def test_by_the_definition(self):
        source = random.Random(436)
        found = []
        for machine in random_machines(437, 400, standings=3):
            for side in ("least", "greatest"):
                for _ in range(6):
                    rate = (source.randint(-1, 4), source.randint(1, 2))
                    levels = [source.randint(-2, 2) for _ in range(machine.standings)]
                    answer = is_rate_paper(machine, side, rate, levels)
                    self.assertIs(is_paper_slowly(machine, side, rate, levels), answer)
                    found.append((side, answer))
        self.assertGreater(min(found.count((side, answer)) for side in ("least", "greatest")
                               for answer in (True, False)), 300)

    def test_no_levels_for_a_better_rate(self):
        source = random.Random(438)
        for machine in random_machines(439, 200, standings=3):
            for side, function, _ in SIDES:
                told = function(machine)
                better = 1 if side == "least" else -1
                for times in (1, 2, 7):
                    rate = (told.rate[0] * times + better, told.rate[1] * times)
                    levels = [level * times for level in told.levels]
                    self.assertIs(False, is_rate_paper(machine, side, rate, levels))
                    for _ in range(5):
                        moved = [level + source.randint(-3, 3) for level in levels]
                        self.assertIs(False, is_rate_paper(machine, side, rate, moved))

    def test_other_rates_and_levels_that_hold(self):
        machine = Machine("ab", [[(0, "0"), (0, "10")]])
        for rate in ((1, 1), (2, 2), (7, 7), (1, 2), (0, 1), (-5, 1)):
            self.assertIs(True, is_rate_paper(machine, "least", rate, [10 ** 40]))
            self.assertIs(rate in ((2, 1),), is_rate_paper(machine, "greatest", rate, (0,)))
        for rate in ((2, 1), (6, 3), (5, 2), (100, 1)):
            self.assertIs(True, is_rate_paper(machine, "greatest", rate, (-3,)))
            self.assertIs(False, is_rate_paper(machine, "least", rate, [0]))

    def test_levels_too_few_or_too_many(self):
        machine = Machine("ab", EXAMPLE)
        for side, function, _ in SIDES:
            told = function(machine)
            levels = list(told.levels)
            self.assertIs(True, is_rate_paper(machine, side, told.rate, levels))
            for wrong in ([], levels[:1], levels + [0], levels + levels, [0] * 4000):
                self.assertIs(False, is_rate_paper(machine, side, told.rate, wrong))

    def test_only_reached_standings_count(self):
        machine = Machine("a", [[(0, "1")], [(1, "")], [(0, "1" * 9)]])
        for levels in ((0, 0, 0), (0, 5, -100), (3, -9, 100)):
            self.assertIs(True, is_rate_paper(machine, "least", (1, 1), levels))
            self.assertIs(True, is_rate_paper(machine, "greatest", (1, 1), levels))

    def test_a_step_of_one_counts(self):
        machine = Machine("a", [[(1, "111")], [(0, "1")]])
        self.assertEqual((2, 1), least_rate(machine).rate)
        for levels, answer in (((0, 1), True), ((5, 6), True), ((0, 0), False), ((0, 2), False), ((1, 0), False)):
            for side in ("least", "greatest"):
                self.assertIs(answer, is_rate_paper(machine, side, (2, 1), levels), levels)
        # With half a bit of room on each step.
        for levels, answer in (((0, 1), True), ((0, 2), True), ((0, 3), True), ((0, 4), False), ((0, 0), False)):
            self.assertIs(answer, is_rate_paper(machine, "least", (3, 2), levels), levels)

    def test_lists_and_names(self):
        machine = Machine("a", [[(1, "111")], [(0, "1")]])
        levels, rate = [0, 1], [2, 1]
        self.assertIs(True, is_rate_paper(levels=levels, rate=rate, side="least", machine=machine))
        self.assertIs(True, is_rate_paper(machine, "greatest", (2, 1), (0, 1)))
        self.assertEqual(([0, 1], [2, 1]), (levels, rate))


if __name__ == "__main__":
    unittest.main()
