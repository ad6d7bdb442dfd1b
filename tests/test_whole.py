"""The general rules, points 2 to 6, at everything that the program has."""

import copy
import random
import unittest

from outpressed.averages import heaviest, lightest, total_bits, weight_sum
from outpressed.blockmachines import block_machine
from outpressed.blocks import press, pressed_length
from outpressed.buildmachines import machine_of_build
from outpressed.builds import Build
from outpressed.buildwords import words_of
from outpressed.cuts import Cut, cut_of
from outpressed.deeds import perform
from outpressed.duels import duel
from outpressed.errors import AlphabetsDiffer, BadAlphabet, BadLetter, PressError
from outpressed.evidence import (best_joins, is_best_joins, is_least_paper, is_sameness_paper, least_paper,
                                 sameness_paper)
from outpressed.excesses import excess, told_excess
from outpressed.floors import floor_bits, shared_total
from outpressed.grades import grade
from outpressed.grown import Grown, beginning_of, grown_of, powered
from outpressed.grownruns import grown_bits, grown_in, grown_letters, grown_run
from outpressed.holds import hold, is_hold_paper, is_open_paper
from outpressed.instants import is_instant
from outpressed.leads import greatest_lead, is_lead_loop, is_lead_paper
from outpressed.lotcounts import lot_bits, lot_count, lot_heaviest, lot_lightest, rank_in, text_at
from outpressed.lotrates import goes_through, lot_rates
from outpressed.lotreadbacks import are_lot_twins, comes_back_on, is_lot_paper, lot_room
from outpressed.lots import Lot, lot_containing, lot_counting, lot_of
from outpressed.lotwriting import texts_writing, written_lot
from outpressed.machines import Machine
from outpressed.named import named_build, named_words
from outpressed.overtaking import overtaken_from
from outpressed.pairs import are_twins, pair_moves, starting_pairs, walk_room
from outpressed.racing import ahead_from
from outpressed.rates import greatest_rate, is_rate_paper, least_rate
from outpressed.readbacks import comes_back, is_readback_paper
from outpressed.readers import Reader, read_back
from outpressed.rivals import best_one
from outpressed.roundruns import bits_on, rate_on, settle
from outpressed.rounds import Round, pieces_bound, word_count
from outpressed.sameness import least_machine, same_writing
from outpressed.simplifying import simplified
from outpressed.stretches import fill
from outpressed.widths import number_bits, width
from outpressed.workshops import Workshop
from tests.brute import EXAMPLE, are_tuples, raised

NO_ALPHABETS = ("", "ba", "aa", "abcdefg", "a b", "A", "aB", "a\n", "~", "ab ", " ab", "a0", "0123456", "-", "a,b")
STRANGE = ("c", "A", " ", "\n", "~", "0", "-")
# What is given besides the alphabet is wrong where it can be: BadAlphabet comes first.
WITH_ALPHABET = (
    lambda alphabet: Cut(alphabet, [(7, "?")], -1), lambda alphabet: Cut(alphabet, [], 0),
    lambda alphabet: cut_of(alphabet, "?"), lambda alphabet: cut_of(alphabet, ""),
    lambda alphabet: press(alphabet, "?"), lambda alphabet: press(alphabet, ""), lambda alphabet: Machine(alphabet, []),
    lambda alphabet: Machine(alphabet, [[(9, "?")]]), Machine.plain, lambda alphabet: block_machine(alphabet, 1),
    lambda alphabet: block_machine(alphabet, 100), lambda alphabet: best_one(alphabet, "?"),
    lambda alphabet: Round(alphabet, "?", ""), lambda alphabet: Round(alphabet, "", ""),
    lambda alphabet: Lot(alphabet, []), lambda alphabet: Lot(alphabet, [(True, [9])]),
    lambda alphabet: lot_of(alphabet, []), lambda alphabet: lot_of(alphabet, ["?"]),
    lambda alphabet: lot_containing(alphabet, "?"), lambda alphabet: lot_counting(alphabet, "a", 0, 1),
    lambda alphabet: Build(alphabet, "?"), lambda alphabet: Build(alphabet, "plain"),
    lambda alphabet: named_build("?", alphabet), lambda alphabet: named_words("?", alphabet, "?"),
    lambda alphabet: named_words("held", alphabet, ""), lambda alphabet: Grown(alphabet, []),
    lambda alphabet: Grown(alphabet, ["?"]), lambda alphabet: grown_of(alphabet, ""),
    lambda alphabet: grown_of(alphabet, "?"), Workshop)

MACHINE = Machine("ab", EXAMPLE)
TWINS = Machine("ab", [[(0, "0"), (0, "00")]])
LARGE = Machine("ab", [[((k + 1) % 60, "0" * 40), (k, "")] for k in range(60)])
NOTHING = Lot("ab", [(False, (0, 0))])
LOT = lot_counting("ab", "a", 0, 2)
# Each one with the number of texts that it takes, all over the alphabet ab, in the order in which they are passed.
WITH_TEXTS = (
    (1, lambda one: cut_of("ab", one)), (1, lambda one: press("ab", one)), (1, MACHINE.run), (1, MACHINE.last_after),
    (1, MACHINE), (1, lambda one: MACHINE.run(one, start=1)), (2, lambda one, two: are_twins(MACHINE, one, two)),
    (5, lambda *texts: is_open_paper(MACHINE, *texts)), (5, lambda *texts: is_open_paper(LARGE, *texts)),
    (1, lambda one: duel(MACHINE, one)), (1, lambda one: duel(TWINS, one)), (1, lambda one: duel(LARGE, one)),
    (1, lambda one: best_one("ab", one)), (2, lambda one, two: Round("ab", one, two)),
    (1, lambda one: Round("ab", one, "")), (3, lambda *texts: lot_of("ab", list(texts))),
    (2, lambda *texts: lot_of("ab", texts)), (1, lambda one: lot_containing("ab", one)),
    (1, lambda one: rank_in(LOT, one)), (1, lambda one: rank_in(NOTHING, one)),
    (2, lambda one, two: are_lot_twins(MACHINE, LOT, one, two)),
    (2, lambda one, two: are_lot_twins(LARGE, NOTHING, one, two)),
    (2, lambda one, two: is_lead_loop(MACHINE, TWINS, one, two)), (1, lambda one: words_of(Build("ab", "plain"), one)),
    (1, lambda one: words_of(Build("ab", "blocks(9)>late(plain)"), one)), (1, lambda one: named_words("held", "ab", one)),
    (1, lambda one: named_words("?", "ab", one)),
    (4, lambda one, two, three, four: is_least_paper(MACHINE, [one, two], [(0, 1, three), (1, 0, four)])),
    (2, lambda *texts: is_least_paper(MACHINE, [], [(0, 0, text) for text in texts])),
    (1, lambda one: grown_of("ab", one)), (1, Workshop("ab").ranking))

ABC = Machine.plain("abc")
ABC_LOT = lot_of("abc", ["a"])
ABC_ROUND = Round("abc", "", "a")
GROWN = grown_of("ab", "ab")
ROUND = Round("ab", "", "ab")
# With two different alphabets each, in the order of the error's fields, and all else wrong where it can be.
WITH_TWO_ALPHABETS = (
    ("01", "ab", lambda: MACHINE >> MACHINE), ("01", "abc", lambda: Machine.plain("01") >> ABC),
    ("ab", "abc", lambda: same_writing(MACHINE, ABC)), ("abc", "ab", lambda: same_writing(ABC, MACHINE)),
    ("ab", "abc", lambda: settle(MACHINE, ABC_ROUND)), ("ab", "abc", lambda: bits_on(MACHINE, ABC_ROUND, 0)),
    ("ab", "abc", lambda: rate_on(MACHINE, ABC_ROUND)), ("ab", "abc", lambda: ahead_from(MACHINE, ABC_ROUND)),
    ("ab", "abc", lambda: ahead_from(TWINS, ABC_ROUND)), ("ab", "abc", lambda: LOT & ABC_LOT),
    ("ab", "abc", lambda: LOT | ABC_LOT), ("abc", "ab", lambda: ABC_LOT - LOT),
    ("ab", "abc", lambda: lot_bits(MACHINE, ABC_LOT, 0)), ("ab", "abc", lambda: lot_lightest(MACHINE, ABC_LOT, 0)),
    ("abc", "ab", lambda: lot_heaviest(ABC, LOT, 3)), ("01", "ab", lambda: texts_writing(MACHINE, LOT)),
    ("01", "abc", lambda: texts_writing(MACHINE, ABC_LOT)), ("ab", "abc", lambda: written_lot(MACHINE, ABC_LOT)),
    ("ab", "abc", lambda: lot_room(MACHINE, ABC_LOT)), ("ab", "abc", lambda: comes_back_on(LARGE, ABC_LOT)),
    ("ab", "abc", lambda: are_lot_twins(MACHINE, ABC_LOT, "?", "?")),
    ("ab", "abc", lambda: is_lot_paper(MACHINE, ABC_LOT, [])), ("abc", "ab", lambda: goes_through(ABC_ROUND, LOT)),
    ("ab", "abc", lambda: lot_rates(LARGE, lot_counting("abc", "a", 0, 12))),
    ("ab", "abc", lambda: greatest_lead(MACHINE, ABC)), ("abc", "ab", lambda: is_lead_paper(ABC, MACHINE, 0, [])),
    ("ab", "abc", lambda: is_lead_loop(MACHINE, ABC, "?", "?")), ("ab", "abc", lambda: sameness_paper(MACHINE, ABC)),
    ("abc", "ab", lambda: is_sameness_paper(ABC, MACHINE, [])), ("ab", "abc", lambda: GROWN + grown_of("abc", "a")),
    ("abc", "ab", lambda: grown_run(ABC, GROWN)), ("abc", "ab", lambda: grown_bits(ABC, GROWN, -1, -2)),
    ("ab", "abc", lambda: grown_in(GROWN, ABC_LOT)), ("ab", "abc", lambda: Workshop("ab").keep("x", ABC)))


class GeneralTest(unittest.TestCase):
    def test_no_alphabets(self):
        for alphabet in NO_ALPHABETS:
            for call in WITH_ALPHABET:
                self.assertEqual((alphabet,), raised(BadAlphabet, call, alphabet))

    def test_strange_signs_in_texts(self):
        for many, call in WITH_TEXTS:
            for sign in STRANGE:
                for place in range(many):
                    for index in (0, 1, 5):
                        # Those before are texts, and those behind have strange signs as well.
                        texts = ["ab"] * place + ["ababab"[:index] + sign + "a"] + [sign + "a"] * (many - place - 1)
                        self.assertEqual((index,), raised(BadLetter, call, *texts), (texts, call))
                    texts = ["ab"] * place + ["abb" + sign + sign] + ["ab"] * (many - place - 1)
                    self.assertEqual((3,), raised(BadLetter, call, *texts), texts)

    def test_two_alphabets(self):
        for one, two, call in WITH_TWO_ALPHABETS:
            self.assertEqual((one, two), raised(AlphabetsDiffer, call))


def shown(value):
    """The answer in a form that can be compared, whatever objects it has."""
    if isinstance(value, tuple):
        return tuple(shown(item) for item in value)
    if type(value).__module__.startswith("outpressed."):
        return type(value).__name__, tuple(sorted((name, shown(held)) for name, held in vars(value).items()
                                                  if not name.startswith("_")))
    return value


BITS = Lot("01", [(True, (0, 1)), (False, (1, 0))])
BUILD = Build("ab", "turns(late(plain),code(0,11))>after(plain,code(1,0))")
PAPER = comes_back(MACHINE)
LEVELS = hold(MACHINE).levels
# Calls with their arguments; lists are passed to see that they are not changed.
QUESTIONS = (
    (cut_of, "ab", "abababb"), (Cut, "ab", [[0, "a"], [1, "b"]], 1), (width, 10 ** 40), (number_bits, 5, 77),
    (press, "abc", "abcabbca"), (pressed_length, 3, 10 ** 30), (fill, 10 ** 9, [3, 0, 7, 10 ** 9]),
    (Machine, "ab", [[[0, "1"], [0, ""]]]), (Machine.plain, "abc"), (MACHINE.run, "abba"), (MACHINE, "abba"),
    (MACHINE.last_after, "aab"), (same_writing, MACHINE, TWINS), (least_machine, LARGE), (block_machine, "ab", 3),
    (total_bits, MACHINE, 60), (lightest, MACHINE, 9), (heaviest, MACHINE, 9), (weight_sum, MACHINE, 9),
    (are_twins, TWINS, "aa", "b"), (starting_pairs, MACHINE), (pair_moves, MACHINE, [1, 0, "", "1"]),
    (walk_room, LARGE), (comes_back, MACHINE), (comes_back, TWINS), (comes_back, LARGE),
    (is_readback_paper, MACHINE, list(PAPER.heights), [list(pair) for pair in PAPER.table]), (hold, MACHINE),
    (hold, Machine("ab", [[(1, ""), (2, "")], [(1, "0"), (1, "1")], [(2, "0"), (2, "1")]])), (hold, TWINS),
    (is_hold_paper, MACHINE, 1, [[list(pair), number] for pair, number in LEVELS]),
    (is_open_paper, MACHINE, "", "a", "aa", "b", "bb"), (read_back, MACHINE, "001", 1), (read_back, MACHINE, "2", 1),
    (lambda machine: Reader(machine).feed("0010"), MACHINE), (shared_total, 10 ** 50, 3), (floor_bits, 60, 10 ** 30),
    (excess, 3, 7, 10 ** 30), (told_excess, 3, 7, 10 ** 30), (duel, MACHINE, "aabab"), (is_instant, MACHINE),
    (best_one, "abc", "aabac"), (Round, "ab", "aab", "abab"), (ROUND.letter_of, 10 ** 30), (ROUND.beginning, 9),
    (word_count, ROUND, 10 ** 30), (pieces_bound, ROUND, 10 ** 30), (settle, MACHINE, ROUND),
    (bits_on, MACHINE, ROUND, 10 ** 30), (rate_on, MACHINE, ROUND), (least_rate, MACHINE), (greatest_rate, MACHINE),
    (is_rate_paper, MACHINE, "least", [1, 1], [0, 0]), (overtaken_from, 2, 3, 2), (ahead_from, MACHINE, ROUND),
    (Lot, "ab", [[True, [0, 1]], [False, [1, 0]]]), (lot_of, "ab", ["ab", "", "b"]), (lot_containing, "ab", "aba"),
    (lot_counting, "ab", "a", 1, 3), (lambda one, two: (~one, one & two, one | two, one - two), LOT, NOTHING),
    (lambda text, lot: text in lot, "abab", LOT), (lot_count, LOT, 60), (rank_in, LOT, "abab"), (rank_in, LOT, "a"),
    (text_at, LOT, 9, 100), (text_at, LOT, 9, 10 ** 9), (lot_bits, MACHINE, LOT, 9), (lot_lightest, MACHINE, LOT, 9),
    (lot_heaviest, MACHINE, LOT, 9), (texts_writing, MACHINE, BITS), (written_lot, MACHINE, LOT),
    (lot_room, MACHINE, LOT), (comes_back_on, MACHINE, LOT), (comes_back_on, TWINS, LOT), (comes_back_on, LARGE, LOT),
    (are_lot_twins, TWINS, ~NOTHING, "aa", "b"), (is_lot_paper, MACHINE, LOT, [[1, 1, 0, 0, "", "1"]]),
    (goes_through, ROUND, LOT), (lot_rates, MACHINE, LOT), (greatest_lead, MACHINE, TWINS),
    (greatest_lead, TWINS, MACHINE), (is_lead_paper, MACHINE, MACHINE, 0, [[[0, 0], 0], [[1, 1], 0]]),
    (is_lead_loop, TWINS, MACHINE, "", "b"), (Build, "ab", "late(plain)"), (Build, "ab", "late(plain"),
    (words_of, BUILD, "abba"), (machine_of_build, BUILD), (grade, BUILD), (simplified, BUILD),
    (named_build, "mixed", "abc"), (named_words, "steps", "abc", "abc"), (sameness_paper, MACHINE, MACHINE),
    (is_sameness_paper, MACHINE, MACHINE, [[0, 0], [1, 1]]), (least_paper, MACHINE),
    (is_least_paper, MACHINE, ["", "a"], [[0, 1, "a"]]), (best_joins, [3, 1, 1]), (is_best_joins, [1, 0], [[0, 1]]),
    (Grown, "ab", ["a", "b", [0, 1]]), (Grown, "ab", ["a", [0, True]]), (GROWN.letter_of, 1), (GROWN.stretch, 0, 2),
    (lambda one, two: one + two, GROWN, GROWN), (grown_of, "ab", "abba"), (powered, GROWN, 10 ** 30),
    (beginning_of, ROUND, 10 ** 30), (grown_run, MACHINE, GROWN), (grown_bits, MACHINE, GROWN, 0, 1),
    (grown_in, GROWN, LOT), (grown_letters, GROWN),
    (lambda deeds: perform(Workshop("ab"), deeds), [["make", "x", "plain"], ("drop", "y"), ["undo"], ["undo"]]))


def answer_of(question):
    """The answer, or the error with its fields, and whether the arguments are as they were."""
    call, *given = question
    before = copy.deepcopy([item for item in given if isinstance(item, list)])
    try:
        answer = call(*given)
    except PressError as error:
        answer = type(error).__name__, tuple(vars(error).values())
    return answer, before == [item for item in given if isinstance(item, list)]


class AgainTest(unittest.TestCase):
    def test_the_same_questions_in_any_order(self):
        told = []
        for question in QUESTIONS:
            answer, same = answer_of(question)
            self.assertTrue(same, question)
            told.append(shown(answer))
            self.assertTrue(are_tuples(told[-1]), question)
        source = random.Random(3)
        for _ in range(3):
            order = list(range(len(QUESTIONS)))
            source.shuffle(order)
            for place in order:
                self.assertEqual(told[place], shown(answer_of(QUESTIONS[place])[0]), QUESTIONS[place])

    def test_objects_stay_as_they_were(self):
        held = (MACHINE, TWINS, LARGE, LOT, NOTHING, BITS, BUILD, GROWN, ROUND)
        before = [shown(item) for item in held]
        for question in QUESTIONS:
            answer_of(question)
        self.assertEqual(before, [shown(item) for item in held])


class PassedAgainTest(unittest.TestCase):
    """What the program has returned may be passed to it again, beyond the bounds for what others pass."""

    def test_long_texts(self):
        text = powered(grown_of("ab", "abaababaabaab"), 10 ** 20).stretch(10 ** 10, 10 ** 10 + 2000)
        cut = cut_of("ab", text)
        self.assertEqual((text, cut), (cut.text, Cut("ab", cut.rows, cut.tail)))
        bits = press("ab", text)
        self.assertEqual(len(bits), pressed_length(2, cut.many))
        self.assertEqual(bits, Machine.plain("01")(bits))
        self.assertEqual(len(bits), duel(MACHINE, text).presser_bits)
        self.assertEqual(2000, len(words_of(BUILD, text)))
        self.assertEqual(named_words("held", "ab", text)[1:], named_words("unary", "ab", text)[:-1])
        self.assertEqual(text, grown_of("ab", text).stretch(0, 2000))
        self.assertIs(text.count("a") % 2 == 0, text in LOT)
        self.assertIs(True, text in lot_of("ab", [text, ""]))
        self.assertIs(True, text + text[:3] in lot_containing("ab", text))
        endless = Round("ab", text, text)
        self.assertEqual(("", 2000), (endless.head, endless.variety))
        self.assertEqual(2000, word_count(endless, 10 ** 30))
        self.assertEqual(len(MACHINE(text)), bits_on(MACHINE, endless, 2000))
        self.assertLessEqual(len(best_one("ab", text)(text)), 2000)
        self.assertIs(False, are_twins(MACHINE, text, text))
        self.assertIs(False, is_lead_loop(MACHINE, MACHINE, text, text))

    def test_large_machines(self):
        one = block_machine("ab", 5)
        two = Machine("01", [[((k + 1) % 60, "0"), ((k + 7) % 60, "1")] for k in range(60)])
        large = one >> two
        self.assertGreater(large.standings, 500)
        self.assertIsNone(same_writing(large, one))
        self.assertEqual(one, least_machine(large))
        self.assertIsNone(least_paper(large))
        paper = sameness_paper(one, large)
        self.assertEqual(large.standings, len(paper))
        self.assertIs(True, is_sameness_paper(one, large, paper))
        self.assertEqual(total_bits(one, 60), total_bits(large, 60))
        self.assertEqual(least_rate(one).rate, least_rate(large).rate)
        self.assertEqual(grown_run(one, beginning_of(ROUND, 10 ** 30))[0],
                         grown_run(large, beginning_of(ROUND, 10 ** 30))[0])
        self.assertEqual(lot_bits(one, LOT, 12), lot_bits(large, LOT, 12))
        self.assertIs(False, are_lot_twins(large, LOT, "aa", "bb"))
        # Blocks part at their ends, so there are no starting pairs but those of letters that are held back.
        self.assertIn(is_lot_paper(large, LOT, []), (True, False))

    def test_papers_with_great_numbers(self):
        lead = greatest_lead(Machine("ab", [[(min(k + 1, 59), "0" * 40 * (k < 59))] * 2 for k in range(60)]),
                             Machine("ab", [[(0, ""), (0, "")]]))
        self.assertEqual(40 * 59, lead.lead)
        rates = lot_rates(Machine("ab", [[((k + 1) % 30, "0" * (k == 7)), (0, "1")] for k in range(30)]),
                          lot_counting("ab", "b", 0, 12))
        for endless in (rates.least_round, rates.greatest_round):
            self.assertTrue(goes_through(endless, lot_counting("ab", "b", 0, 12)))
            self.assertEqual(endless, Round("ab", endless.head, endless.ring))
            self.assertEqual(endless.beginning(1000), beginning_of(endless, 1000).stretch(0, 1000))


if __name__ == "__main__":
    unittest.main()
