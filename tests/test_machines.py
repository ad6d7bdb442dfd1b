"""Points 15 to 17, and what points 3 and 6 say of machines."""

import random
import unittest

from outpressed.errors import AlphabetsDiffer, BadAlphabet, BadLetter, BadRule, BadStanding
from outpressed.machines import Machine
from tests.brute import are_tuples, in_order, random_machines, run_slowly, texts_up_to

RULES = [[(1, ""), (0, "1")], [(0, "00"), (0, "01")]]


class MachineTest(unittest.TestCase):
    def test_the_example(self):
        machine = Machine("ab", RULES)
        self.assertEqual(("001", 1), machine.run("aaba"))
        self.assertEqual("001", machine("aaba"))
        self.assertEqual(1, machine.last_after("aaba"))

    def test_fields(self):
        machine = Machine("ab", RULES)
        self.assertEqual("ab", machine.alphabet)
        self.assertEqual((((1, ""), (0, "1")), ((0, "00"), (0, "01"))), machine.rules)
        self.assertEqual((2, (0, 1)), (machine.standings, machine.reached))
        self.assertTrue(are_tuples((machine.rules, machine.reached)))

    def test_reached(self):
        self.assertEqual((0,), Machine("a", [[(0, "")], [(0, "1")]]).reached)
        self.assertEqual((0, 1, 3), Machine("ab", [[(3, ""), (0, "")], [(1, ""), (1, "1")], [(0, "0")] * 2,
                                                   [(1, "1"), (0, "")]]).reached)
        for machine in random_machines(15, 100, standings=5):
            lasts = {machine.last_after(text) for text in texts_up_to(machine.alphabet, 4)}
            self.assertEqual(tuple(sorted(lasts)), machine.reached)

    def test_runs_by_the_definition(self):
        for machine in random_machines(16, 60, standings=4, longest=4):
            for text in texts_up_to(machine.alphabet, 4):
                self.assertEqual(run_slowly(machine, text), machine.run(text))
                self.assertEqual(run_slowly(machine, text)[0], machine(text))
                self.assertEqual(run_slowly(machine, text)[1], machine.last_after(text))
                for start in range(machine.standings):
                    self.assertEqual(run_slowly(machine, text, start), machine.run(text, start=start))

    def test_the_empty_text(self):
        machine = Machine("ab", RULES)
        self.assertEqual((("", 0), ("", 1), "", 0),
                         (machine.run(""), machine.run("", start=1), machine(""), machine.last_after("")))

    def test_from_a_standing_that_is_not_reached(self):
        machine = Machine("a", [[(0, "1")], [(0, "000")]])
        self.assertEqual(("0001", 0), machine.run("aa", start=1))

    def test_by_name(self):
        machine = Machine(rules=RULES, alphabet="ab")
        self.assertEqual(("001", 1), machine.run(text="aaba"))
        self.assertEqual(("00", 0), machine.run(start=1, text="a"))
        self.assertEqual(("001", 1), (machine(text="aaba"), machine.last_after(text="aaba")))
        with self.assertRaises(TypeError):
            machine.run("a", 1)

    def test_lists_tuples_and_later_changes(self):
        rule = [1, ""]
        rules = [[rule, (0, "1")], ([0, "00"], (0, "01"))]
        machine = Machine("ab", rules)
        self.assertEqual(Machine("ab", RULES), machine)
        rule[1] = "111"
        rules[1] = rules[0]
        rules.append(rules[0])
        self.assertEqual(Machine("ab", RULES), machine)
        self.assertEqual("001", machine("aaba"))
        self.assertTrue(are_tuples(machine.rules))
        self.assertEqual(3, len(rules))

    def test_a_long_text(self):
        machine = Machine("ab", RULES)
        self.assertEqual(("00" * 20000, 0), machine.run("aa" * 20000))

    def test_letters(self):
        machine = Machine("ab", RULES)
        for call in (machine, machine.run, machine.last_after, lambda text: machine.run(text, start=1)):
            for text, index in (("c", 0), ("abba0", 4), ("ab B", 2), ("a\nx", 1)):
                with self.assertRaises(BadLetter) as caught:
                    call(text)
                self.assertEqual(index, caught.exception.index)

    def test_alphabets(self):
        for alphabet in ("", "ba", "aa", "a-", "abcdefg"):
            with self.assertRaises(BadAlphabet) as caught:
                Machine(alphabet, [])
            self.assertEqual(alphabet, caught.exception.alphabet)
            with self.assertRaises(BadAlphabet) as caught:
                Machine.plain(alphabet)
            self.assertEqual(alphabet, caught.exception.alphabet)

    def check_standing(self, standing, rules):
        with self.assertRaises(BadStanding) as caught:
            Machine("ab", rules)
        self.assertEqual(standing, caught.exception.standing)

    def test_bad_standings(self):
        good = [(0, ""), (0, "")]
        self.check_standing(0, [])
        self.check_standing(0, ())
        self.check_standing(0, [[]])
        self.check_standing(0, [[(0, "")]])
        self.check_standing(1, [good, [(0, "")] * 3])
        self.check_standing(2, [good, good, [], [(0, "")]])

    def check_rule(self, standing, letter, rules):
        with self.assertRaises(BadRule) as caught:
            Machine("ab", rules)
        self.assertEqual((standing, letter), (caught.exception.standing, caught.exception.letter))

    def test_bad_rules(self):
        good = [(0, ""), (1, "01")]
        for following in (-1, 2, True, False, None, "0", "", 10 ** 40):
            self.check_rule(1, "b", [good, [(0, "1"), (following, "0")]])
        for word in ("2", "0a", " ", "01 ", "0\n", None, True, False, 0, 1, "a0"):
            self.check_rule(0, "a", [[(0, word), (0, "")], good])
        self.check_rule(0, "b", [[(0, ""), (5, "")], [(7, ""), (0, "x")]])
        self.check_rule(1, "a", [good, [(7, ""), (0, "x")]])
        self.check_rule(0, "a", [[(1, "x"), (0, "")]])

    def test_all_standings_come_before_the_rules(self):
        self.check_standing(1, [[(9, "x"), (None, None)], []])

    def test_bounds(self):
        machine = Machine("a", [[((k + 1) % 60, "01" * 20)] for k in range(60)])
        self.assertEqual((60, tuple(range(60))), (machine.standings, machine.reached))
        self.assertEqual(("01" * 1200, 0), machine.run("a" * 60))

    def test_equality(self):
        machine = Machine("ab", RULES)
        self.assertTrue(machine == Machine("ab", tuple(RULES)))
        self.assertFalse(machine != Machine("ab", tuple(RULES)))
        for other in (Machine("ac", RULES), Machine("ab", RULES + [RULES[0]]), Machine.plain("ab"),
                      Machine("ab", [[(1, ""), (0, "1")], [(0, "00"), (1, "01")]]), "ab", None, machine.rules):
            self.assertFalse(machine == other)
            self.assertTrue(machine != other)


class PlainTest(unittest.TestCase):
    def test_words(self):
        for alphabet, words in (("a", ["0"]), ("ab", ["0", "1"]), ("xyz", ["00", "01", "10"]),
                                ("0123", ["00", "01", "10", "11"]),
                                ("abcdef", ["000", "001", "010", "011", "100", "101"])):
            self.assertEqual((tuple((0, word) for word in words),), Machine.plain(alphabet).rules)
            self.assertEqual(alphabet, Machine.plain(alphabet=alphabet).alphabet)


class RowTest(unittest.TestCase):
    def check(self, one, two):
        both = one >> two
        self.assertEqual(one.alphabet, both.alphabet)
        self.assertEqual(tuple(range(both.standings)), both.reached)
        pairs = {}
        for text in texts_up_to(one.alphabet, 5):
            bits, first = run_slowly(one, text)
            written, second = run_slowly(two, bits)
            self.assertEqual(written, both(text))
            self.assertEqual(both.last_after(text), pairs.setdefault((first, second), both.last_after(text)))
        self.assertEqual(len(pairs), len(set(pairs.values())))

    def test_by_the_definition(self):
        firsts = random_machines(17, 60, standings=3)
        seconds = random_machines(18, 60, alphabets=("01",), standings=3)
        for one, two in zip(firsts, seconds):
            self.check(one, two)

    def test_the_order_of_the_standings(self):
        for one, two in zip(random_machines(19, 60), random_machines(20, 60, alphabets=("01",))):
            both = one >> two
            least = {}
            for text in texts_up_to(both.alphabet, 8):
                least.setdefault(both.last_after(text), text)
            self.assertEqual([least[k] for k in range(both.standings)], in_order(least.values()))

    def test_three_in_a_row(self):
        source = random.Random(21)
        for _ in range(20):
            one, = random_machines(source.random(), 1)
            two, three = random_machines(source.random(), 2, alphabets=("01",))
            self.assertEqual((one >> two) >> three, one >> (two >> three))

    def test_empty_words_and_one_letter(self):
        silent = Machine("a", [[(0, "")]])
        self.assertEqual(silent, silent >> Machine.plain("01"))
        self.assertEqual(Machine("a", [[(1, "")], [(0, "1")]]),
                         Machine("a", [[(0, "1")]]) >> Machine("01", [[(1, ""), (1, "")], [(0, "1"), (0, "1")]]))

    def test_many_standings(self):
        ring = Machine("ab", [[((k + 1) % 60, "1"), (k, "0")] for k in range(60)])
        other = Machine("01", [[(k, ""), ((k + 1) % 59, "1")] for k in range(59)])
        both = ring >> other
        self.assertEqual(60 * 59, both.standings)
        self.assertEqual("1" * 300, both("ab" * 300))

    def test_alphabets_differ(self):
        for alphabet in ("0", "1", "012", "ab", "02"):
            with self.assertRaises(AlphabetsDiffer) as caught:
                Machine.plain("ab") >> Machine.plain(alphabet)
            self.assertEqual(("01", alphabet), (caught.exception.one, caught.exception.two))

    def test_the_machines_are_not_changed(self):
        one, two = Machine("ab", RULES), Machine.plain("01")
        first = one >> two
        two >> two
        self.assertEqual(first, one >> two)
        self.assertEqual((Machine("ab", RULES), Machine.plain("01")), (one, two))


if __name__ == "__main__":
    unittest.main()
