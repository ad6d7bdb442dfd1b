"""Point 38."""

import unittest

from outpressed.blockmachines import block_machine
from outpressed.instants import is_instant
from outpressed.machines import Machine
from outpressed.readbacks import comes_back
from tests.brute import EXAMPLE, random_machines


def is_instant_slowly(machine):
    for row in machine.rules:
        for k, (_, word) in enumerate(row):
            if word == "" or any(other.startswith(word) for j, (_, other) in enumerate(row) if j != k):
                return False
    return True


class InstantTest(unittest.TestCase):
    def test_by_the_definition(self):
        found = []
        for machine in random_machines(38, 1500, alphabets=("a", "ab", "abc", "abcd"), standings=2, longest=4):
            answer = is_instant(machine)
            self.assertIs(is_instant_slowly(machine), answer)
            found.append(answer)
            if answer:
                self.assertTrue(comes_back(machine).holds)
        self.assertGreater(min(found.count(True), found.count(False)), 100)

    def test_words_that_begin_others(self):
        for words, answer in ((["0", "1"], True), (["0", "0"], False), (["0", "01"], False), (["01", "0"], False),
                              (["", "1"], False), (["1", ""], False), (["01", "00"], True),
                              (["1", "00", "01"], True), (["01", "1", "011"], False), (["10", "0", "1"], False)):
            machine = Machine("abc"[:len(words)], [[(0, word) for word in words]])
            self.assertIs(answer, is_instant(machine), words)

    def test_one_letter(self):
        self.assertIs(True, is_instant(Machine("a", [[(0, "0")]])))
        self.assertIs(False, is_instant(Machine("a", [[(0, "")]])))
        self.assertIs(False, is_instant(Machine("a", [[(1, "0")], [(0, "")]])))

    def test_standings_that_are_not_reached_count(self):
        good, bad = [(0, "0"), (0, "1")], [(0, "0"), (0, "")]
        self.assertIs(True, is_instant(Machine("ab", [good, good])))
        self.assertIs(False, is_instant(Machine("ab", [good, bad])))
        self.assertIs(False, is_instant(Machine("ab", [good, good, [(0, "1"), (0, "10")]])))

    def test_machines_that_come_back_need_not_be_instant(self):
        for machine in (Machine("ab", EXAMPLE), Machine("ab", [[(0, "0"), (0, "01")]]), block_machine("ab", 2)):
            self.assertTrue(comes_back(machine).holds)
            self.assertIs(False, is_instant(machine))
        self.assertIs(True, is_instant(block_machine("ab", 1)))
        self.assertIs(True, is_instant(Machine.plain("abcdef")))

    def test_by_name(self):
        self.assertIs(True, is_instant(machine=Machine.plain("ab")))


if __name__ == "__main__":
    unittest.main()
