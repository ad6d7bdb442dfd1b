"""Point 52."""

import random
import unittest

from outpressed.builds import Build
from outpressed.errors import BadAlphabet, BadBuild
from tests.brute import bad_index_slowly, raised, random_build

BUILDS = [
    ("ab", "plain"), ("a", "code(0)"), ("ab", "code(-,-)"), ("ab", "code(010101010101,-)"), ("abc", "code(0,-,111)"),
    ("abcdef", "code(0,1,00,01,10,11)"), ("ab", "blocks(1)"), ("ab", "blocks(9)"), ("ab", "late(plain)"),
    ("ab", "late(plain)>code(0,11)"), ("ab", "after(code(0,1),code(1,0))"), ("a", "after(plain)"), ("a", "turns(plain)"),
    ("abc", "after(plain,late(plain),blocks(2)>plain)"), ("ab", "turns(plain,plain,plain,plain)"),
    ("abc", "code(0,10,11)>turns(code(0,1),after(plain,blocks(3)>plain),plain)>plain"),
    ("a", "late(late(late(late(late(plain)))))"), ("abc", "plain>after(plain,plain)"),
    ("01", "turns(late(plain>code(-,0)),blocks(7)>late(plain))>code(1,-)"),
]
STRANGE = "\n ()->,.019acbltpkoeiAX~"


class BuildTest(unittest.TestCase):
    def check(self, alphabet, text):
        index = bad_index_slowly(alphabet, text)
        if index is None:
            build = Build(alphabet, text)
            self.assertEqual((alphabet, text), (build.alphabet, build.text))
            return True
        self.assertEqual((index,), raised(BadBuild, Build, alphabet, text), (alphabet, text))
        return False

    def test_builds(self):
        for alphabet, text in BUILDS:
            self.assertTrue(self.check(alphabet, text), text)

    def test_beginnings(self):
        for alphabet, text in BUILDS:
            for end in range(len(text)):
                self.check(alphabet, text[:end])
            self.assertEqual((len(text) + 1,), raised(BadBuild, Build, alphabet, text + ">"))
        self.assertEqual((0,), raised(BadBuild, Build, "ab", ""))
        self.assertEqual((11,), raised(BadBuild, Build, "ab", "late(plain>"))
        self.assertEqual((4,), raised(BadBuild, Build, "ab", "plai"))

    def test_a_wrong_character_at_each_place(self):
        wrong = 0
        for alphabet, text in BUILDS:
            for place in range(len(text) + 1):
                for letter in STRANGE:
                    wrong += not self.check(alphabet, text[:place] + letter + text[place + 1:])
                    wrong += not self.check(alphabet, text[:place] + letter + text[place:])
                self.check(alphabet, text[:place] + text[place + 1:])
        self.assertGreater(wrong, 20000)

    def test_builds_over_another_alphabet(self):
        for _, text in BUILDS:
            for alphabet in ("a", "01", "abc", "0abz", "abcdef"):
                self.check(alphabet, text)
        self.assertEqual((9,), raised(BadBuild, Build, "abc", "code(0,10)>plain"))
        self.assertEqual((6,), raised(BadBuild, Build, "a", "code(0,10)"))
        # All steps behind the first one read bits, whatever the alphabet is.
        for alphabet in ("a", "ab", "abc"):
            self.assertTrue(self.check(alphabet, "plain>code(0,1)>after(plain,late(code(1,0)))"))
            self.assertFalse(self.check(alphabet, "plain>code(0,1,1)"))
            self.assertFalse(self.check(alphabet, "plain>after(plain)"))
        # A build within a step that reads letters reads letters as well.
        self.assertTrue(self.check("abc", "late(code(0,1,1)>code(0,1))"))
        self.assertFalse(self.check("abc", "late(code(0,1)>code(0,1))"))
        self.assertTrue(self.check("abc", "plain>late(code(0,1)>code(0,1))"))

    def test_words(self):
        for many in (1, 2, 11, 12):
            self.assertTrue(self.check("ab", f"code({'0' * many},{'1' * many})"))
        self.assertEqual((17,), raised(BadBuild, Build, "ab", f"code({'0' * 12}0,1)"))
        self.assertEqual((19,), raised(BadBuild, Build, "ab", f"code(1,{'01' * 6}1)"))
        for text, index in (("code(,1)", 5), ("code(1,)", 7), ("code()", 5), ("code(1)", 6), ("code(1,1,1)", 8),
                            ("code(--,1)", 6), ("code(-1,1)", 6), ("code(1-,1)", 6), ("code(2,1)", 5),
                            ("code( 1,1)", 5), ("code(1, 1)", 7), ("code(1,1) ", 9), ("code[1,1]", 4),
                            ("code(1;1)", 6), ("code(1,1", 8), ("code(1,", 7), ("code", 4), ("Code(1,1)", 0)):
            self.assertEqual((index,), raised(BadBuild, Build, "ab", text), text)

    def test_digits(self):
        for digit in "123456789":
            self.assertTrue(self.check("ab", f"blocks({digit})"))
        for text, index in (("blocks(0)", 7), ("blocks()", 7), ("blocks(12)", 8), ("blocks(1", 8), ("blocks(-)", 7),
                            ("blocks(a)", 7), ("blocks(", 7), ("blocks", 6), ("block(1)", 5), ("blocks1", 6)):
            self.assertEqual((index,), raised(BadBuild, Build, "ab", text), text)

    def test_how_many_builds(self):
        for many in (1, 2, 3, 4):
            self.assertTrue(self.check("ab", f"turns({','.join(['plain'] * many)})"))
        for text, index in (("turns()", 6), ("turns(plain,plain,plain,plain,plain)", 29), ("turns(plain,)", 12),
                            ("late()", 5), ("late(plain,plain)", 10), ("after(plain)", 11),
                            ("after(plain,plain,plain)", 17), ("after(plain,plain", 17), ("late(plain", 10),
                            ("turns(plain,plain,plain,plain", 29), ("after()", 6)):
            self.assertEqual((index,), raised(BadBuild, Build, "ab", text), text)

    def test_brackets_that_close_none(self):
        for text, index in (("plain)", 5), (")", 0), ("late(plain))", 11), ("plain)>plain", 5), ("))))", 0),
                            ("code(1,1)))))))", 9)):
            self.assertEqual((index,), raised(BadBuild, Build, "ab", text), text)

    def test_random_strings_near_builds(self):
        source = random.Random(52)
        good = 0
        for _ in range(1500):
            alphabet = source.choice(["a", "ab", "abc", "01", "0a1b2c"[:source.randint(1, 2)]])
            alphabet = "".join(sorted(set(alphabet)))
            text = random_build(source, alphabet, source.randint(0, 3))
            self.assertTrue(self.check(alphabet, text), text)
            for _ in range(source.randint(0, 2)):
                place = source.randint(0, len(text))
                text = text[:place] + source.choice(["", source.choice(STRANGE)]) + text[place + source.randint(0, 2):]
            good += self.check(alphabet, text)
        self.assertGreater(good, 400)

    def test_long_strings(self):
        text = ">".join(["plain"] * 50)
        self.assertEqual(299, len(text))
        self.assertTrue(self.check("ab", text))
        self.assertEqual((299,), raised(BadBuild, Build, "ab", text + "x"))
        self.assertEqual((300,), raised(BadBuild, Build, "ab", text + ">"))
        # Somewhat beyond five brackets.
        self.assertEqual("late(" * 9 + "plain" + ")" * 9, Build("ab", "late(" * 9 + "plain" + ")" * 9).text)
        self.assertEqual((300,), raised(BadBuild, Build, "ab", "late(" * 60))

    def test_alphabet_first_and_names(self):
        for alphabet in ("", "ba", "aa", "abcdefg", "a b", "A", "plain"):
            self.assertEqual((alphabet,), raised(BadAlphabet, Build, alphabet, "x"))
        self.assertEqual({"alphabet": "ab", "text": "plain"}, vars(Build(text="plain", alphabet="ab")))


if __name__ == "__main__":
    unittest.main()
