"""Point 18."""

import random
import unittest

from outpressed.errors import AlphabetsDiffer
from outpressed.machines import Machine
from outpressed.sameness import least_machine, same_writing
from outpressed.tables import stable_classes
from tests.brute import EXAMPLE, in_order, late_rules, random_machines, random_rules, run_slowly, texts_up_to


def same_slowly(one, two):
    """The least text for which the bits differ, looked for as far as needed."""
    for text in texts_up_to(one.alphabet, one.standings + two.standings):
        if run_slowly(one, text)[0] != run_slowly(two, text)[0]:
            return text
    return None


def kinds_slowly(machine):
    """How many reached standings differ in what is written from them on."""
    texts = texts_up_to(machine.alphabet, machine.standings)
    return len({tuple(run_slowly(machine, text, standing)[0] for text in texts) for standing in machine.reached})


def blurred(source, machine):
    """A machine with more standings that writes the same."""
    copies = 2
    rules = []
    for standing in range(machine.standings * copies):
        rules.append([(following + machine.standings * source.randrange(copies), word)
                      for following, word in machine.rules[standing % machine.standings]])
    return Machine(machine.alphabet, rules)


class SameWritingTest(unittest.TestCase):
    def test_the_example(self):
        self.assertEqual("a", same_writing(Machine("ab", EXAMPLE), Machine.plain("ab")))

    def test_by_the_definition(self):
        source = random.Random(180)
        found = set()
        for size, standings, longest in ((1, 4, 1), (2, 3, 1), (3, 2, 1), (2, 2, 2)):
            for _ in range(150):
                one, two = [Machine("abc"[:size], random_rules(source, size, source.randint(1, standings), longest))
                            for _ in range(2)]
                answer = same_slowly(one, two)
                self.assertEqual(answer, same_writing(one, two))
                self.assertEqual(answer, same_writing(two, one))
                found.add(answer if answer is None else len(answer))
        self.assertTrue({None, 1, 2, 3} <= found)

    def test_machines_that_write_nearly_the_same(self):
        source = random.Random(181)
        for machine in random_machines(182, 120, standings=3, longest=1):
            one, two = blurred(source, machine), blurred(source, machine)
            self.assertIsNone(same_writing(one, two))
            self.assertIsNone(same_writing(machine, one))
            rules = [list(row) for row in two.rules]
            standing, place = source.randrange(two.standings), source.randrange(len(two.alphabet))
            rules[standing][place] = (rules[standing][place][0], "01")
            other = Machine(two.alphabet, rules)
            self.assertEqual(same_slowly(one, other) if standing in other.reached else None,
                             same_writing(one, other))

    def test_standings_that_are_not_reached_count_nothing(self):
        self.assertIsNone(same_writing(Machine("a", [[(0, "1")], [(1, "0")]]), Machine("a", [[(0, "1")]])))

    def test_the_cut_into_words_counts(self):
        # For both the bits of "ab" are 01, but not those of "a".
        one = Machine("ab", [[(0, "0"), (0, "1")]])
        two = Machine("ab", [[(1, ""), (0, "1")], [(1, "0"), (0, "01")]])
        self.assertEqual(one("ab"), two("ab"))
        self.assertEqual("a", same_writing(one, two))

    def test_alphabets_differ(self):
        with self.assertRaises(AlphabetsDiffer) as caught:
            same_writing(Machine.plain("ab"), Machine.plain("ac"))
        self.assertEqual(("ab", "ac"), (caught.exception.one, caught.exception.two))

    def test_by_name_and_again(self):
        one, two = Machine("ab", EXAMPLE), Machine.plain("ab")
        self.assertEqual("a", same_writing(two=two, one=one))
        self.assertIsNone(same_writing(one, Machine("ab", EXAMPLE)))
        self.assertEqual("a", same_writing(one, two))


class LeastMachineTest(unittest.TestCase):
    def check(self, machine):
        least = least_machine(machine)
        self.assertIsNone(same_writing(machine, least))
        self.assertEqual(kinds_slowly(machine), least.standings)
        self.assertEqual(machine.alphabet, least.alphabet)
        first = {}
        for text in texts_up_to(least.alphabet, least.standings):
            first.setdefault(least.last_after(text), text)
        self.assertEqual([first[k] for k in range(least.standings)], in_order(first.values()))
        self.assertEqual(least, least_machine(least))
        return least

    def test_by_the_definition(self):
        source = random.Random(183)
        for machine in random_machines(184, 150, standings=5, longest=1):
            least = self.check(machine)
            self.assertEqual(least, least_machine(blurred(source, machine)))

    def test_the_same_for_all_that_write_the_same(self):
        source = random.Random(185)
        for machine in random_machines(186, 60, alphabets=("ab", "abc"), standings=4, longest=1):
            self.assertEqual(self.check(blurred(source, machine)), self.check(blurred(source, machine)))

    def test_edges(self):
        self.assertEqual(Machine("a", [[(0, "")]]), least_machine(Machine("a", [[(2, "")], [(0, "1")], [(0, "")]])))
        self.assertEqual(Machine("ab", EXAMPLE), least_machine(machine=Machine("ab", EXAMPLE)))
        # Standings 1 and 2 change places, and 3 is not reached.
        self.assertEqual(Machine("ab", [[(1, "0"), (2, "0")], [(1, "1"), (1, "")], [(0, ""), (2, "")]]),
                         least_machine(Machine("ab", [[(2, "0"), (1, "0")], [(0, ""), (1, "")], [(2, "1"), (2, "")],
                                                      [(3, "11"), (0, "0")]])))

    def test_machines_in_a_row(self):
        ring = Machine("ab", [[((k + 1) % 60, "1"), (k, "0")] for k in range(60)])
        count = Machine("01", [[(k, ""), ((k + 1) % 59, "1" if k == 58 else "")] for k in range(59)])
        row = ring >> count
        self.assertEqual(3540, row.standings)
        self.assertEqual(59, least_machine(row).standings)
        self.assertIsNone(same_writing(row, least_machine(row)))
        # Here all standings are needed, and some are parted by very long texts alone.
        marked = Machine("ab", [[((k + 1) % 60, "1"), ((k + 1) % 60, "0" if k == 0 else "1")] for k in range(60)])
        row = marked >> count
        self.assertEqual(3540, least_machine(row).standings)
        steady = Machine("ab", [[((k + 1) % 60, "1")] * 2 for k in range(60)]) >> count
        rules = [list(rule) for rule in steady.rules]
        last = steady.last_after("a" * 3539)
        rules[last][1] = (rules[last][1][0], "111")
        self.assertTrue("a" * 3539 + "b" == same_writing(steady, Machine("ab", rules)))
        longer = row >> Machine("01", [[((k + 2) % 11, "0"), ((k + 1) % 11, "1" * (k // 10))] for k in range(11)])
        self.assertGreater(longer.standings, 30000)
        self.assertIsNone(same_writing(longer, least_machine(longer)))

    def test_held_letters(self):
        for letters in (1, 2, 3, 4):
            machine = Machine("ab", late_rules(letters))
            self.assertEqual(2 ** (letters + 1) - 1, machine.standings)
            self.assertEqual(machine, least_machine(machine))


class StableClassesTest(unittest.TestCase):
    def test_by_slow_refinement(self):
        source = random.Random(187)
        for _ in range(300):
            many, size = source.randint(1, 30), source.randint(1, 3)
            colors = [0] + [source.randrange(2) for _ in range(many - 1)]
            colors = [sorted(set(colors)).index(color) for color in colors]
            nexts = [[source.randrange(many) for _ in range(size)] for _ in range(many)]
            slow = colors
            while True:
                kinds = [(slow[s],) + tuple(slow[t] for t in nexts[s]) for s in range(many)]
                finer = [sorted(set(kinds)).index(kind) for kind in kinds]
                if len(set(finer)) == len(set(slow)):
                    break
                slow = finer
            classes = stable_classes(colors, nexts)
            self.assertEqual(len(set(slow)), len(set(zip(slow, classes))))
            self.assertEqual(len(set(classes)), len(set(zip(slow, classes))))


if __name__ == "__main__":
    unittest.main()
