"""Point 55."""

import random
import unittest

from outpressed.builds import Build
from outpressed.buildmachines import machine_of_build
from outpressed.buildwords import words_of
from outpressed.simplifying import simplified
from tests.brute import random_build, random_text, split_outside, step_parts, texts_up_to, words_slowly


def code_words(step):
    return [part.replace("-", "") for part in step_parts(step)[1]]


def places_of(build):
    """All places of the four kinds in a build, by point 55."""
    steps = split_outside(build, ">")
    found = [("plain", step) for step in steps[1:] if step == "plain"]
    for one, two in zip(steps, steps[1:]):
        if one.startswith("code(") and two.startswith("code("):
            words = ["".join(code_words(two)[int(bit)] for bit in word) for word in code_words(one)]
            joined = f"code({','.join(word or '-' for word in words)})"
            if max(map(len, words)) <= 12 and len(joined) <= len(one + ">" + two):
                found.append(("codes", one, two))
    for step in steps:
        name, parts = step_parts(step)
        if name == "turns" and len(parts) == 1:
            found.append(("turns", step))
        if name in ("turns", "after") and len(set(parts)) == 1 and parts[0].startswith("code(") \
                and len(split_outside(parts[0], ">")) == 1:
            found.append(("one code", step))
        if name in ("late", "turns", "after"):
            found += [place for part in parts for place in places_of(part)]
    return found


def bits_slowly(build, alphabet, text):
    return "".join(words_slowly(build, alphabet, text))


class SimplifiedTest(unittest.TestCase):
    def check(self, alphabet, text, longest=5):
        build = Build(alphabet, text)
        answer = simplified(build)
        self.assertIs(Build, type(answer))
        self.assertEqual(alphabet, answer.alphabet)
        self.assertEqual((alphabet, text), (build.alphabet, build.text))
        self.assertLessEqual(len(answer.text), len(text))
        self.assertEqual([], places_of(answer.text), (text, answer.text))
        for letters in texts_up_to(alphabet, longest):
            self.assertEqual(bits_slowly(text, alphabet, letters), "".join(words_of(answer, letters)), text)
        return answer.text

    def test_by_the_definition(self):
        source = random.Random(55)
        shorter = 0
        for _ in range(600):
            alphabet = source.choice(["a", "ab", "ab", "abc"])
            text = random_build(source, alphabet, source.randint(0, 4))
            answer = self.check(alphabet, text, {"a": 9, "ab": 4, "abc": 3}[alphabet])
            shorter += answer != text
            if len(text) > 60:
                continue
            letters = [random_text(source, alphabet, source.randint(6, 12)) for _ in range(5)]
            for one in letters:
                self.assertEqual(bits_slowly(text, alphabet, one), bits_slowly(answer, alphabet, one))
        self.assertGreater(shorter, 200)

    def test_no_more_standings(self):
        source = random.Random(550)
        texts = [random_build(source, "ab", source.randint(1, 3), 2) for _ in range(250)]
        for text in texts:
            before = machine_of_build(Build("ab", text))
            self.assertLessEqual(machine_of_build(simplified(Build("ab", text))).standings, before.standings, text)
        for text, before, after in (("turns(code(0,1),code(0,1))", 2, 1), ("after(code(0,1),code(0,1))", 2, 1),
                                    ("turns(turns(code(0,1),code(0,1)),late(plain))", 10, 6),
                                    ("late(turns(code(0,1),code(0,1),code(0,1)))", 7, 3)):
            self.assertEqual((before, after), (machine_of_build(Build("ab", text)).standings,
                                               machine_of_build(simplified(Build("ab", text))).standings))

    def test_each_place_at_each_depth(self):
        places = [("plain>plain", "plain"), ("code(0,10)>plain", "code(0,10)"), ("turns(plain)", "plain"),
                  ("turns(late(plain)>blocks(2))", "late(plain)>blocks(2)"), ("code(0,1)>code(1,0)", "code(1,0)"),
                  ("turns(code(0,11),code(0,11))", "code(0,11)"), ("after(code(0,11),code(0,11))", "code(0,11)"),
                  ("turns(turns(turns(plain)))", "plain"), ("plain>turns(plain)", "plain"),
                  ("turns(plain>plain)>plain", "plain"), ("turns(code(0,1))>turns(code(1,0))>plain", "code(1,0)"),
                  ("turns(code(0,1)>code(1,0),code(1,0))", "code(1,0)"),
                  ("turns(turns(code(-,1)),code(-,1),code(-,1)>plain)", "code(-,1)"),
                  ("after(turns(code(1,0),code(1,0)),code(0,1)>code(1,0))>code(0,1)", "code(1,0)"),
                  ("plain>turns(code(0,1)>late(plain))", "plain>code(0,1)>late(plain)"),
                  ("turns(plain>code(0,1))>code(1,0)", "plain>code(1,0)"),
                  ("late(plain)>turns(plain>late(plain))", "late(plain)>late(plain)"),
                  ("blocks(2)>turns(code(1,0))>turns(code(1,0))", "blocks(2)>code(0,1)")]
        for text, least in places:
            self.assertEqual(least, self.check("ab", text))
            for around in ("late({})", "late(late({}))", "turns({},late(plain))", "turns(late(plain),plain,{})",
                           "after(plain,{})", "plain>late({})", "late(plain)>turns(blocks(2),late({}))",
                           "blocks(2)>after({},after(late({}),plain))", "late(turns(after(plain,late({})),plain))"):
                wanted = around.replace("{}", least)
                self.assertEqual(wanted, self.check("ab", around.replace("{}", text), 4))

    def test_what_stays(self):
        for text in ("plain", "plain>code(0,1)", "late(plain)", "turns(plain,plain)", "after(plain,plain)",
                     "turns(late(plain),late(plain))", "turns(code(0,1),code(1,0))", "blocks(1)>blocks(1)",
                     "turns(code(0,1)>late(plain),code(0,1)>late(plain))", "after(code(0,1),code(0,-))",
                     "code(0,1)>late(plain)>code(1,0)", "late(code(0,1))>code(1,0)", "code(0,-)>blocks(3)>code(1,0)"):
            self.assertEqual(text, self.check("ab", text))
        self.assertEqual("code(0)", self.check("a", "after(code(0))"))
        self.assertEqual("after(plain)", self.check("a", "after(plain)"))

    def test_codes_side_by_side(self):
        # Twelve bits are a word, thirteen are none.
        self.assertEqual("code(111111111111,-)", self.check("ab", "code(111111,-)>code(0,11)"))
        text = "code(1111111,-)>code(0,11)"
        self.assertEqual(text, self.check("ab", text))
        self.assertEqual("code(000000,1111)", self.check("ab", "code(00,11)>code(000,11)"))
        self.assertEqual("code(-,-)", self.check("ab", "code(0,11)>code(-,-)"))
        self.assertEqual("code(-,-)", self.check("ab", "code(-,-)>code(01,10)"))
        self.assertEqual("code(1,-,11)", self.check("abc", "code(0,1,00)>code(0,-)>code(01,1)>code(-,0)>code(1,0)"))

    def test_the_bound_of_the_characters(self):
        # A joined step may have as many characters as both steps and the >, but not one more.
        for text, joined in (("code(00,0)>code(010101,1)", "code(010101010101,010101)"),
                             ("code(00,00)>code(00000,111)", "code(0000000000,0000000000)")):
            self.assertEqual(len(text), len(joined))
            self.assertEqual(joined, self.check("ab", text))
        text = "code(00,00)>code(00000,11)"
        self.assertEqual(len(text) + 1, len("code(0000000000,0000000000)"))
        self.assertEqual(text, self.check("ab", text))
        text = "code(0,0,0,0)>code(00000,1)"
        self.assertEqual(len(text) + 2, len("code(00000,00000,00000,00000)"))
        self.assertEqual(text, self.check("abcd", text, 3))
        # An empty word has a character as well.
        self.assertEqual("code(-,-,-,-,-,-)", self.check("abcdef", "code(1,1,1,1,1,1)>code(0,-)", 2))

    def test_three_codes(self):
        source = random.Random(551)
        for _ in range(300):
            many = source.randint(2, 5)
            steps = ["code(" + ",".join("".join(source.choice("01") for _ in range(source.randint(0, 4))) or "-"
                                        for _ in range(2)) + ")" for _ in range(many)]
            self.check("ab", ">".join(steps), 3)

    def test_long_rows_and_large_machines(self):
        self.assertEqual("plain", self.check("ab", ">".join(["plain"] * 50)))
        self.assertEqual("code(0,1)", self.check("ab", ">".join(["code(1,0)"] * 30), 3))
        text = "late(blocks(9)>turns(blocks(8)))>plain>late(blocks(9))"
        self.assertEqual("late(blocks(9)>blocks(8))>late(blocks(9))", simplified(Build("abcdef", text)).text)

    def test_again_and_by_name(self):
        source = random.Random(552)
        for _ in range(100):
            build = Build("ab", random_build(source, "ab", 3))
            first = simplified(build=build)
            self.assertEqual(first.text, simplified(Build("ab", build.text)).text)
            self.assertEqual([], places_of(simplified(first).text))


if __name__ == "__main__":
    unittest.main()
