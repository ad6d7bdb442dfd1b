"""Point 53: the machine of a build."""

import random
import unittest

from outpressed.blockmachines import block_machine
from outpressed.builds import Build
from outpressed.buildmachines import machine_of_build
from outpressed.buildwords import words_of
from outpressed.machines import Machine
from outpressed.sameness import same_writing
from tests.brute import memory_slowly, random_build, run_slowly, texts_up_to


def built(alphabet, text):
    return machine_of_build(Build(alphabet, text))


class MachineTest(unittest.TestCase):
    def check(self, alphabet, text, longest):
        machine = built(alphabet, text)
        self.assertIs(Machine, type(machine))
        self.assertEqual(alphabet, machine.alphabet)
        self.assertEqual(tuple(range(machine.standings)), machine.reached)
        memories, order = {}, []
        for letters in texts_up_to(alphabet, longest):
            standing = 0
            words = []
            for letter in letters:
                standing, word = machine.rules[standing][alphabet.index(letter)]
                words.append(word)
            self.assertEqual(words_of(Build(alphabet, text), letters), tuple(words))
            if standing not in order:
                order.append(standing)
            memory = repr(memory_slowly(text, alphabet, letters))
            self.assertEqual(memory, memories.setdefault(standing, memory), (text, letters))
        self.assertEqual(list(range(len(order))), order)
        self.assertEqual(len(memories), len(set(memories.values())), text)
        return machine

    def test_by_the_definition(self):
        source = random.Random(530)
        sizes = []
        for _ in range(150):
            alphabet = source.choice(["a", "ab", "ab", "abc"])
            text = random_build(source, alphabet, source.randint(0, 3), 2)
            machine = self.check(alphabet, text, {"a": 12, "ab": 6, "abc": 4}[alphabet])
            sizes.append(machine.standings)
        self.assertGreater(len(set(sizes)), 10)

    def test_plain_code_and_blocks(self):
        for alphabet in ("a", "ab", "abc", "abcdef"):
            self.assertEqual(Machine.plain(alphabet), built(alphabet, "plain"))
        self.assertEqual(Machine("ab", [[(0, ""), (0, "01")]]), built("ab", "code(-,01)"))
        for alphabet, lengths in (("a", range(1, 10)), ("ab", range(1, 6)), ("abc", (1, 2, 3, 4)), ("abcdef", (1, 2, 3))):
            for length in lengths:
                self.assertEqual(block_machine(alphabet, length), built(alphabet, f"blocks({length})"))

    def test_in_a_row(self):
        source = random.Random(531)
        for _ in range(60):
            one = random_build(source, "ab", source.randint(0, 2), 1)
            two = random_build(source, "01", source.randint(0, 2), 1)
            row = built("ab", f"{one}>{two}")
            # As in point 17: pairs of standings, numbered by the least texts that lead to them.
            self.assertEqual(built("ab", one) >> built("01", two), row)

    def test_what_is_remembered(self):
        for text, standings in (("late(plain)", 3), ("turns(plain,plain)", 2), ("turns(plain)", 1),
                                ("turns(plain,plain,plain,plain)", 4), ("after(plain,plain)", 2),
                                ("late(late(plain))", 7), ("turns(late(plain),late(plain))", 11),
                                ("after(late(plain),late(plain))", 7), ("code(-,-)>late(plain)", 1),
                                ("late(code(0,0))", 3), ("turns(code(0,1),code(0,1))", 2),
                                ("code(0,0)>late(plain)", 2)):
            machine = self.check("ab", text, 7)
            self.assertEqual(standings, machine.standings, text)
        self.assertEqual(1, self.check("a", "after(plain)", 5).standings)
        self.assertEqual(2, self.check("a", "late(plain)", 5).standings)

    def test_nested_deeply(self):
        text = "late(turns(after(late(turns(plain,plain)),plain),plain))"
        self.check("ab", text, 7)
        machine = self.check("a", "late(late(late(late(late(late(late(plain)))))))", 20)
        self.assertEqual(8, machine.standings)

    def test_standings_that_do_the_same_stay_apart(self):
        machine = built("ab", "turns(plain,plain)")
        self.assertEqual(2, machine.standings)
        self.assertIsNone(same_writing(machine, Machine.plain("ab")))

    def test_by_name_again_and_run(self):
        first = machine_of_build(build=Build("ab", "late(plain)>code(0,11)"))
        self.assertEqual(first, built("ab", "late(plain)>code(0,11)"))
        self.assertEqual(("011", 1), run_slowly(first, "aba"))


if __name__ == "__main__":
    unittest.main()
