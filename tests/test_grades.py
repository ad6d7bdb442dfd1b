"""Point 54."""

import random
import unittest

from outpressed.builds import Build
from outpressed.buildmachines import machine_of_build
from outpressed.grades import grade
from outpressed.instants import is_instant
from outpressed.machines import Machine
from outpressed.pairs import walk_room
from outpressed.readbacks import comes_back
from tests.brute import random_build, split_outside, step_parts


def grade_slowly(build, alphabet):
    return min(step_grade_slowly(step, "01" if place else alphabet)
               for place, step in enumerate(split_outside(build, ">")))


def step_grade_slowly(step, alphabet):
    name, parts = step_parts(step)
    if name == "plain" or step == "blocks(1)":
        return 2
    if name == "blocks":
        return 1
    if name == "code":
        words = [part.replace("-", "") for part in parts]
        begins = [(i, j) for i, one in enumerate(words) for j, two in enumerate(words)
                  if i != j and two.startswith(one)]
        if "" not in words and not begins:
            return 2
        return int(comes_back(Machine(alphabet, [[(0, word) for word in words]])).holds)
    grades = [grade_slowly(part, alphabet) for part in parts]
    if name == "late":
        return 1 if grades[0] in (1, 2) else 0
    if name == "turns" and len(parts) == 1:
        return grades[0]
    return 2 if grades == [2] * len(grades) else 0


class GradeTest(unittest.TestCase):
    def told(self, alphabet, text):
        answer = grade(Build(alphabet, text))
        self.assertIs(int, type(answer))
        return answer

    def test_by_the_definition(self):
        source = random.Random(54)
        found = []
        for _ in range(1500):
            alphabet = source.choice(["a", "ab", "abc"])
            text = random_build(source, alphabet, source.randint(0, 3), 2)
            found.append(self.told(alphabet, text))
            self.assertEqual(grade_slowly(text, alphabet), found[-1], text)
        for number in (0, 1, 2):
            self.assertGreater(found.count(number), 60)

    def test_what_the_grades_promise(self):
        source = random.Random(540)
        seen = [0, 0, 0]
        for _ in range(400):
            alphabet = source.choice(["a", "ab", "abc"])
            text = random_build(source, alphabet, source.randint(0, 3), 2)
            machine = machine_of_build(Build(alphabet, text))
            number = self.told(alphabet, text)
            if number == 2:
                self.assertTrue(is_instant(machine), text)
            if number >= 1 and walk_room(machine) <= 20000:
                self.assertTrue(comes_back(machine).holds, text)
            seen[number] += 1
        self.assertGreater(min(seen), 20)

    def test_steps(self):
        for alphabet, text, number in (
                ("ab", "plain", 2), ("a", "plain", 2), ("ab", "blocks(1)", 2), ("ab", "blocks(2)", 1),
                ("ab", "blocks(9)", 1), ("a", "blocks(2)", 1), ("ab", "code(0,10)", 2), ("ab", "code(0,01)", 1),
                ("ab", "code(0,00)", 0), ("ab", "code(0,0)", 0), ("ab", "code(-,0)", 0), ("ab", "code(0,-)", 0),
                ("a", "code(0)", 2), ("a", "code(-)", 0), ("abc", "code(0,10,11)", 2), ("abc", "code(0,01,11)", 1),
                ("abc", "code(0,01,10)", 0), ("abc", "code(10,0,00)", 0), ("abc", "code(1,011,01110)", 0),
                ("ab", "late(plain)", 1), ("ab", "late(blocks(2))", 1), ("ab", "late(code(0,01))", 1),
                ("ab", "late(code(0,0))", 0), ("ab", "late(late(plain))", 1), ("ab", "turns(plain,plain)", 2),
                ("ab", "turns(plain,blocks(2))", 0), ("ab", "turns(plain,blocks(1))", 2),
                ("ab", "turns(blocks(2))", 1), ("ab", "turns(code(0,0))", 0), ("ab", "turns(plain)", 2),
                ("ab", "turns(late(plain))", 1), ("ab", "turns(late(plain),late(plain))", 0),
                ("ab", "after(plain,code(0,10))", 2), ("ab", "after(plain,late(plain))", 0),
                ("a", "after(plain)", 2), ("a", "after(blocks(2))", 0), ("a", "after(late(plain))", 0)):
            self.assertEqual(number, self.told(alphabet, text), text)

    def test_rows(self):
        for text, number in (("plain>plain", 2), ("plain>late(plain)", 1), ("late(plain)>code(0,11)", 1),
                             ("late(plain)>code(0,00)", 0), ("code(0,0)>plain", 0), ("plain>turns(plain,blocks(2))", 0),
                             ("blocks(3)>blocks(2)>code(1,0)", 1), ("late(plain>code(0,0))", 0),
                             ("late(turns(plain,plain)>code(0,01))", 1), ("turns(plain>code(0,01),plain)", 0)):
            self.assertEqual(number, self.told("ab", text), text)

    def test_late_is_exact(self):
        source = random.Random(541)
        seen = []
        for _ in range(150):
            text = random_build(source, "ab", source.randint(0, 2), 1)
            inner, outer = (machine_of_build(Build("ab", told)) for told in (text, f"late({text})"))
            if max(walk_room(inner), walk_room(outer)) <= 20000:
                self.assertEqual(comes_back(inner).holds, comes_back(outer).holds, text)
                seen.append(comes_back(inner).holds)
        self.assertTrue(seen.count(True) > 20 and seen.count(False) > 20)

    def test_codes_with_long_words_and_far_twins(self):
        self.assertEqual(1, self.told("ab", "code(0,000000000001)"))
        self.assertEqual(0, self.told("ab", "code(00,000000000000)"))
        self.assertEqual(1, self.told("abcdef", "code(0,01,011,0111,01111,011111)"))
        self.assertEqual(0, self.told("abcdef", "code(0,01,011,0111,01111,11)"))
        # Only letters in great number tell, by their number being even or odd, where the words begin.
        self.assertEqual(1, self.told("abc", "code(0,01,11)"))
        self.assertEqual(1, self.told("abc", "code(0,01,110)"))
        # 011101110011 is written for cdb and for baae.
        self.assertEqual(0, self.told("abcde", "code(1,011,01110,1110,10011)"))

    def test_machines_of_any_size(self):
        # Their machines have far more than 60 standings.
        self.assertEqual(1, self.told("abcdef", "late(blocks(9)>blocks(9)>blocks(9))>late(blocks(8))"))
        self.assertEqual(0, self.told("abcdef", "turns(blocks(9),blocks(8),blocks(7),blocks(6))"))

    def test_by_name(self):
        self.assertEqual(2, grade(build=Build("ab", "plain")))


if __name__ == "__main__":
    unittest.main()
