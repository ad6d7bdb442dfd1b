"""Points 62 and 63: the class Workshop."""

import random
import unittest

from outpressed.builds import Build
from outpressed.buildmachines import machine_of_build
from outpressed.errors import (AlphabetsDiffer, BadAlphabet, BadBuild, BadLetter, BadName, BadRule, BadStanding,
                               NameTaken, NoName, NothingToRedo, NothingToUndo, PressError, TooLarge)
from outpressed.leads import greatest_lead
from outpressed.machines import Machine
from outpressed.readbacks import comes_back
from outpressed.sameness import same_writing
from outpressed.workshops import Workshop
from tests.brute import DEEDS, EXAMPLE, GOOD_NAMES, SlowWorkshop, fits, raised, random_deed, run_slowly

PLAIN = Machine.plain("ab")
BAD_NAMES = ("", "abcdefghijklm", "9a", "0", "A", "aB", "a b", " a", "a ", "a_b", "a-b", "\n", "a\n", "~", "a.", "-a",
             "1234567890ab", "x" * 300)


class ModelTest(unittest.TestCase):
    def check_questions(self, workshop, model):
        self.assertEqual(sorted(model.machines), list(workshop))
        self.assertEqual(len(model.machines), len(workshop))
        for name, machine in model.machines.items():
            self.assertIs(True, name in workshop)
            self.assertEqual(machine, workshop.machine_of(name))
        for name in GOOD_NAMES + BAD_NAMES:
            self.assertIs(name in model.machines, name in workshop)
        text = (workshop.alphabet * 3)[1:]
        self.assertEqual(tuple(sorted((len(run_slowly(machine, text)[0]), name)
                                      for name, machine in model.machines.items())), workshop.ranking(text))

    def test_rows_of_deeds(self):
        source = random.Random(62)
        seen = {}
        for _ in range(120):
            alphabet = source.choice(["ab", "ab", "abc"])
            workshop, model = Workshop(alphabet), SlowWorkshop(alphabet)
            names = tuple(source.sample(GOOD_NAMES, 4))
            for _ in range(40):
                deed = random_deed(source, alphabet, names)
                if not fits(model, deed):
                    continue
                told = getattr(model, deed[0])(*deed[1:])
                if told is None:
                    self.assertIsNone(getattr(workshop, deed[0])(*deed[1:]))
                else:
                    with self.assertRaises(PressError) as caught:
                        getattr(workshop, deed[0])(*deed[1:])
                    error = caught.exception
                    self.assertEqual(told, (type(error).__name__,) + tuple(vars(error).values()), deed)
                seen[deed[0], told and told[0]] = seen.get((deed[0], told and told[0]), 0) + 1
                self.check_questions(workshop, model)
        self.assertTrue(set(seen) >= {(word, None) for word in DEEDS} | {
            ("keep", "BadName"), ("keep", "NameTaken"), ("keep", "AlphabetsDiffer"), ("make", "BadName"),
            ("make", "NameTaken"), ("make", "BadBuild"), ("change", "NoName"), ("change", "BadStanding"),
            ("change", "BadLetter"), ("change", "BadRule"), ("lead_on", "NoName"), ("lead_on", "BadName"),
            ("lead_on", "NameTaken"), ("lead_on", "BadBuild"), ("shorten", "NoName"), ("rename", "NoName"),
            ("rename", "BadName"), ("rename", "NameTaken"), ("drop", "NoName"), ("undo", "NothingToUndo"),
            ("redo", "NothingToRedo")}, seen)


class DeedsTest(unittest.TestCase):
    def setUp(self):
        self.workshop = Workshop("ab")
        self.workshop.keep("x", PLAIN)
        self.workshop.make("y", "late(plain)")

    def test_alphabets(self):
        for alphabet in ("", "ba", "aa", "abcdefg", "a b", "A"):
            self.assertEqual((alphabet,), raised(BadAlphabet, Workshop, alphabet))
        self.assertEqual("abc", Workshop(alphabet="abc").alphabet)
        self.assertEqual([], list(Workshop("a")))
        self.assertEqual(0, len(Workshop("a")))

    def test_names(self):
        for name in GOOD_NAMES:
            workshop = Workshop("ab")
            self.assertIs(False, name in workshop)
            workshop.keep(name, PLAIN)
            self.assertIs(True, name in workshop)
            self.assertEqual([name], list(workshop))
        for name in BAD_NAMES:
            for call in (lambda: self.workshop.keep(name, Machine.plain("a")), lambda: self.workshop.make(name, "?"),
                         lambda: self.workshop.lead_on("x", "?", name), lambda: self.workshop.rename("x", name)):
                self.assertEqual((name,), raised(BadName, call))
            self.assertIs(False, name in self.workshop)
            for call in (self.workshop.machine_of, self.workshop.drop, self.workshop.shorten, self.workshop.is_sure,
                         self.workshop.alike):
                self.assertEqual((name,), raised(NoName, call, name))

    def test_keep_and_make(self):
        self.assertEqual(("x",), raised(NameTaken, self.workshop.keep, "x", Machine.plain("abc")))
        self.assertEqual(("ab", "abc"), raised(AlphabetsDiffer, self.workshop.keep, "z", Machine.plain("abc")))
        self.assertEqual(("y",), raised(NameTaken, self.workshop.make, "y", "?"))
        self.assertEqual((11,), raised(BadBuild, self.workshop.make, "z", "late(plain>"))
        self.assertIsNone(self.workshop.keep(machine=Machine("ab", EXAMPLE), name="z"))
        self.assertIsNone(self.workshop.make(text="code(0,11)", name="w"))
        self.assertEqual(["w", "x", "y", "z"], list(self.workshop))
        self.assertEqual(Machine("ab", EXAMPLE), self.workshop.machine_of("z"))
        self.assertEqual(Machine("ab", [[(0, "0"), (0, "11")]]), self.workshop.machine_of(name="w"))

    def test_change(self):
        call = self.workshop.change
        self.assertEqual(("ghost",), raised(NoName, call, "ghost", 9, "?", 9, "?"))
        for standing in (3, -1, 10 ** 40, -10 ** 40):
            self.assertEqual((standing,), raised(BadStanding, call, "y", standing, "?", 9, "?"))
        for letter in "c0 ?A\n~":
            self.assertEqual((0,), raised(BadLetter, call, "y", 2, letter, 9, "?"))
        for following, word in ((3, ""), (-1, ""), (10 ** 40, ""), ("0", ""), (True, ""), (False, "0"), (None, "0"),
                                (0, "2"), (0, "01 "), (0, 0), (0, None), (0, True), (0, "0a1"), ("", "")):
            self.assertEqual((2, "b"), raised(BadRule, call, "y", 2, "b", following, word))
        before = self.workshop.machine_of("y")
        self.assertIsNone(call(word="0" * 40, following=1, letter="b", standing=2, name="y"))
        rules = [list(row) for row in before.rules]
        rules[2][1] = (1, "0" * 40)
        self.assertEqual(Machine("ab", rules), self.workshop.machine_of("y"))
        self.assertEqual(machine_of_build(Build("ab", "late(plain)")), before)
        self.assertIsNone(call("x", 0, "a", 0, ""))
        self.assertEqual(Machine("ab", [[(0, ""), (0, "1")]]), self.workshop.machine_of("x"))

    def test_lead_on(self):
        call = self.workshop.lead_on
        self.assertEqual(("ghost",), raised(NoName, call, "ghost", "?", "?"))
        self.assertEqual(("Z",), raised(BadName, call, "x", "?", "Z"))
        for taken in ("x", "y"):
            self.assertEqual((taken,), raised(NameTaken, call, "x", "?", taken))
        self.assertEqual((8,), raised(BadBuild, call, "x", "code(0,1,1)", "z"))
        self.assertIsNone(call(other="z", text="late(plain)>code(0,11)", name="y"))
        self.assertEqual(machine_of_build(Build("ab", "late(plain)")) >> machine_of_build(
            Build("01", "late(plain)>code(0,11)")), self.workshop.machine_of("z"))
        self.assertEqual(["x", "y", "z"], list(self.workshop))
        # A build over 01, also where the workshop has another alphabet.
        other = Workshop("abc")
        other.make("x", "plain")
        other.lead_on("x", "code(0,10)>after(plain,late(plain))", "y")
        self.assertEqual("abc", other.machine_of("y").alphabet)

    def test_shorten_rename_and_drop(self):
        self.workshop.make("z", "turns(plain,plain)")
        self.assertIsNone(self.workshop.shorten("z"))
        self.assertEqual(PLAIN, self.workshop.machine_of("z"))
        self.assertEqual(("x",), raised(NameTaken, self.workshop.rename, "x", "x"))
        self.assertEqual(("z",), raised(NameTaken, self.workshop.rename, "x", "z"))
        self.assertEqual(("ghost",), raised(NoName, self.workshop.rename, "ghost", "?"))
        self.assertIsNone(self.workshop.rename("z", "a"))
        self.assertEqual(["a", "x", "y"], list(self.workshop))
        self.assertEqual(("z",), raised(NoName, self.workshop.machine_of, "z"))
        self.assertIsNone(self.workshop.drop(name="a"))
        self.assertEqual(["x", "y"], list(self.workshop))
        self.assertEqual(("a",), raised(NoName, self.workshop.drop, "a"))

    def test_undo_and_redo(self):
        self.assertEqual((), raised(NothingToRedo, self.workshop.redo))
        self.workshop.rename("x", "z")
        self.assertIsNone(self.workshop.undo())
        self.assertEqual(["x", "y"], list(self.workshop))
        # An error is no deed, so that redo is still there behind it; a question is none either.
        self.assertEqual(("x",), raised(NameTaken, self.workshop.make, "x", "plain"))
        self.assertEqual(("?",), raised(NoName, self.workshop.drop, "?"))
        self.workshop.ranking("ab")
        self.assertIsNone(self.workshop.redo())
        self.assertEqual(["y", "z"], list(self.workshop))
        self.assertEqual((), raised(NothingToRedo, self.workshop.redo))
        for names in (["x", "y"], ["x"], []):
            self.workshop.undo()
            self.assertEqual(names, list(self.workshop))
        for _ in range(2):
            self.assertEqual((), raised(NothingToUndo, self.workshop.undo))
        for names in (["x"], ["x", "y"], ["y", "z"]):
            self.workshop.redo()
            self.assertEqual(names, list(self.workshop))
        self.workshop.undo()
        self.workshop.undo()
        self.workshop.make("w", "plain")
        self.assertEqual((), raised(NothingToRedo, self.workshop.redo))
        self.assertEqual(["w", "x"], list(self.workshop))
        self.workshop.undo()
        self.assertEqual(["x"], list(self.workshop))

    def test_a_deed_that_leaves_everything_as_it_was(self):
        self.workshop.rename("y", "z")
        self.workshop.undo()
        self.workshop.shorten("x")
        self.assertEqual((), raised(NothingToRedo, self.workshop.redo))
        self.workshop.change("x", 0, "a", 0, "0")
        self.assertEqual(PLAIN, self.workshop.machine_of("x"))
        # Both have to be taken back before the name y is.
        for names in (["x", "y"], ["x", "y"], ["x"]):
            self.workshop.undo()
            self.assertEqual(names, list(self.workshop))

    def test_undo_of_each_deed(self):
        for deed in (("keep", "z", PLAIN), ("make", "z", "plain"), ("change", "x", 0, "b", 0, ""),
                     ("lead_on", "y", "late(plain)", "z"), ("shorten", "y"), ("rename", "y", "z"), ("drop", "x")):
            before = {name: self.workshop.machine_of(name) for name in self.workshop}
            getattr(self.workshop, deed[0])(*deed[1:])
            after = {name: self.workshop.machine_of(name) for name in self.workshop}
            for _ in range(2):
                self.workshop.undo()
                self.assertEqual(before, {name: self.workshop.machine_of(name) for name in self.workshop})
                self.workshop.redo()
                self.assertEqual(after, {name: self.workshop.machine_of(name) for name in self.workshop})
            self.workshop.undo()

    def test_what_is_kept_is_not_changed(self):
        machine = Machine("ab", EXAMPLE)
        self.workshop.keep("z", machine)
        self.workshop.change("z", 0, "a", 0, "0")
        self.assertEqual(Machine("ab", EXAMPLE), machine)
        self.assertEqual("0", self.workshop.machine_of("z")("a"))

    def test_many_machines_and_deeds(self):
        workshop = Workshop("ab")
        for k in range(20):
            workshop.make(f"m{k}", "late(late(late(late(plain))))")
        self.assertEqual(sorted(f"m{k}" for k in range(20)), list(workshop))
        self.assertEqual(31, workshop.machine_of("m19").standings)
        for _ in range(20):
            workshop.undo()
        for k in range(20):
            workshop.redo()
            self.assertEqual(k + 1, len(workshop))
        for k in range(20):
            workshop.drop(f"m{k}")
        self.assertEqual(0, len(workshop))


class QuestionsTest(unittest.TestCase):
    def setUp(self):
        self.workshop = Workshop("ab")
        for name, text in (("plain", "plain"), ("two", "turns(plain,plain)"), ("code", "code(0,11)"),
                           ("late", "late(plain)"), ("twins", "code(0,0)"), ("b2", "blocks(2)")):
            self.workshop.make(name, text)

    def test_in_len_and_loop(self):
        self.assertEqual(["b2", "code", "late", "plain", "twins", "two"], [name for name in self.workshop])
        self.assertEqual(6, len(self.workshop))
        for name, told in (("two", True), ("tw", False), ("", False), ("TWO", False), ("two ", False), ("~\n", False)):
            self.assertIs(told, name in self.workshop)
        # Two loops at once, and the loop within its own.
        self.assertEqual(36, len([(one, two) for one in self.workshop for two in self.workshop]))
        self.assertEqual(tuple(self.workshop), tuple(sorted(self.workshop)))

    def test_is_sure(self):
        for name in self.workshop:
            self.assertIs(comes_back(self.workshop.machine_of(name)).holds, self.workshop.is_sure(name))
        self.assertIs(False, self.workshop.is_sure(name="twins"))
        self.assertIs(True, self.workshop.is_sure("late"))
        self.assertEqual(("ghost",), raised(NoName, self.workshop.is_sure, "ghost"))
        self.workshop.keep("large", Machine("ab", [[((k + 1) % 60, "0" * 40), (k, "")] for k in range(60)]))
        self.assertEqual((3600 * 81,), raised(TooLarge, self.workshop.is_sure, "large"))

    def test_lead_between(self):
        for one in self.workshop:
            for two in self.workshop:
                lead = greatest_lead(self.workshop.machine_of(one), self.workshop.machine_of(two)).lead
                self.assertEqual(lead, self.workshop.lead_between(one, two))
        self.assertEqual((None, 0, 1), (self.workshop.lead_between("code", "plain"),
                                        self.workshop.lead_between("plain", "plain"),
                                        self.workshop.lead_between(other="late", name="plain")))
        self.assertEqual(("ghost",), raised(NoName, self.workshop.lead_between, "ghost", "spirit"))
        self.assertEqual(("spirit",), raised(NoName, self.workshop.lead_between, "plain", "spirit"))
        for name, standings in (("n20", 20), ("n21", 21)):
            letter = name == "n20"
            self.workshop.keep(name, Machine("ab", [[((k + letter) % standings, ""), ((k + (not letter)) % standings, "")]
                                                    for k in range(standings)]))
        self.assertEqual((420,), raised(TooLarge, self.workshop.lead_between, "n20", "n21"))

    def test_ranking(self):
        for text in ("", "a", "bb", "abba" * 100):
            self.assertEqual(tuple(sorted((len(self.workshop.machine_of(name)(text)), name) for name in self.workshop)),
                             self.workshop.ranking(text))
        self.assertEqual(((0, "b2"), (0, "late"), (1, "plain"), (1, "twins"), (1, "two"), (2, "code")),
                         self.workshop.ranking(text="b"))
        self.assertEqual((1,), raised(BadLetter, self.workshop.ranking, "ac"))
        self.assertEqual((0,), raised(BadLetter, Workshop("ab").ranking, "c"))
        self.assertEqual((), Workshop("ab").ranking("ab"))

    def test_alike(self):
        for name in self.workshop:
            machine = self.workshop.machine_of(name)
            told = tuple(other for other in self.workshop
                         if same_writing(machine, self.workshop.machine_of(other)) is None)
            self.assertEqual(told, self.workshop.alike(name))
            self.assertIn(name, told)
        self.assertEqual(("plain", "two"), self.workshop.alike("two"))
        self.assertEqual(("late",), self.workshop.alike(name="late"))
        self.assertEqual(("ghost",), raised(NoName, self.workshop.alike, "ghost"))

    def test_two_workshops_do_not_meet(self):
        other = Workshop("ab")
        self.assertEqual([], list(other))
        other.make("plain", "late(plain)")
        self.workshop.drop("plain")
        self.assertEqual(["plain"], list(other))
        self.assertEqual((), raised(NothingToRedo, other.redo))
        self.assertEqual(("plain",), raised(NoName, self.workshop.machine_of, "plain"))


if __name__ == "__main__":
    unittest.main()
