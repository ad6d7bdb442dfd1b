"""Point 63: perform."""

import random
import unittest

from outpressed import errors
from outpressed.deeds import perform
from outpressed.machines import Machine
from outpressed.workshops import Workshop
from tests.brute import GOOD_NAMES, SlowWorkshop, are_tuples, fits, random_deed


class PerformTest(unittest.TestCase):
    def test_like_the_methods(self):
        source = random.Random(63)
        seen = set()
        for _ in range(80):
            workshop, model = Workshop("ab"), SlowWorkshop("ab")
            names = tuple(source.sample(GOOD_NAMES, 4))
            deeds, answers = [], []
            while len(deeds) < 60:
                deed = random_deed(source, "ab", names)
                if fits(model, deed):
                    told = getattr(model, deed[0])(*deed[1:])
                    answers.append(told and told[0])
                    deeds.append(source.choice([list, tuple])(deed))
            answer = perform(workshop, source.choice([list, tuple])(deeds))
            self.assertEqual(tuple(answers), answer)
            self.assertTrue(are_tuples(answer))
            self.assertEqual(model.machines, {name: workshop.machine_of(name) for name in workshop})
            seen.update(answers)
        self.assertEqual({None, "NoName", "BadName", "NameTaken", "AlphabetsDiffer", "BadBuild", "BadStanding",
                          "BadLetter", "BadRule", "NothingToUndo", "NothingToRedo"}, seen)
        for name in seen - {None}:
            self.assertEqual(name, getattr(errors, name).__name__)

    def test_told_by_hand(self):
        workshop = Workshop("ab")
        answers = perform(workshop, [["make", "x", "plain"], ["make", "y", "code(0,11)"],
                                     ["change", "x", 0, "c", 0, "1"], ["undo"]])
        self.assertEqual((None, None, "BadLetter", None), answers)
        self.assertEqual((["x"], ((2, "x"),)), (list(workshop), workshop.ranking("ab")))

    def test_the_deeds_behind_an_error_are_done(self):
        workshop = Workshop("ab")
        deeds = [("redo",), ("undo",), ("drop", "x"), ("keep", "X", Machine.plain("ab")),
                 ("keep", "x", Machine.plain("abc")), ("keep", "x", Machine.plain("ab")), ("make", "x", "plain"),
                 ("make", "y", "plan"), ("change", "x", 1, "a", 0, "0"), ("change", "x", 0, "a", 1, "0"),
                 ("lead_on", "x", "late(plain)", "y"), ("rename", "y", "z"), ("shorten", "z"), ("undo",), ("undo",),
                 ("rename", "y", "y"), ("redo",), ("redo",), ("redo",), ("drop", "x")]
        self.assertEqual(("NothingToRedo", "NothingToUndo", "NoName", "BadName", "AlphabetsDiffer", None, "NameTaken",
                          "BadBuild", "BadStanding", "BadRule", None, None, None, None, None, "NameTaken", None, None,
                          "NothingToRedo", None), perform(deeds=deeds, workshop=workshop))
        self.assertEqual(["z"], list(workshop))

    def test_no_deeds_and_nothing_is_changed(self):
        workshop = Workshop("ab")
        self.assertEqual((), perform(workshop, []))
        deeds = [["make", "x", "plain"], ["drop", "x"]]
        self.assertEqual((None, None), perform(workshop, deeds))
        self.assertEqual([["make", "x", "plain"], ["drop", "x"]], deeds)
        # It works on the very workshop that it is passed, so what it did can be taken back there.
        workshop.undo()
        self.assertEqual(["x"], list(workshop))
        self.assertEqual((None, None), perform(workshop, (("redo",), ("undo",))))


if __name__ == "__main__":
    unittest.main()
