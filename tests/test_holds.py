"""Points 28 to 30."""

import random
import unittest

from outpressed.errors import BadLetter, DoesNotComeBack
from outpressed.holds import hold, is_hold_paper, is_open_paper
from outpressed.machines import Machine
from outpressed.readbacks import comes_back
from tests.brute import (EXAMPLE, are_tuples, coming_back, common, late_rules, random_machines, random_rules,
                         reached_slowly, readings_slowly, run_slowly, starts_slowly, table_slowly, texts_up_to)

# Its two halves write the same for ever.
OPEN = [[(1, ""), (2, "")], [(1, "0"), (1, "1")], [(2, "0"), (2, "1")]]


def shared_slowly(machine, longest):
    """The most bits that two texts with at most so many letters share that part."""
    most = 0
    for standing in reached_slowly(machine):
        written = {letter: [run_slowly(machine, letter + text, standing)[0]
                            for text in texts_up_to(machine.alphabet, longest - 1)] for letter in machine.alphabet}
        for one in machine.alphabet:
            for two in machine.alphabet:
                if one < two:
                    for x in set(written[one]):
                        most = max([most] + [len(common(x, y)) for y in set(written[two])])
    return most


def level_slowly(machine, pair, longest):
    """The most bits that two runs share from the pair on, with so many letters each."""
    first, second, one, two = pair
    texts = texts_up_to(machine.alphabet, longest)
    firsts = {one + run_slowly(machine, text, first)[0] for text in texts}
    seconds = {two + run_slowly(machine, text, second)[0] for text in texts}
    return max(len(common(x, y)) for x in firsts for y in seconds)


def is_paper_slowly(machine, bits, entries):
    """The conditions of point 29, one after the other."""
    pairs = [pair for pair, _ in entries]
    if bits < 0 or len(set(pairs)) != len(pairs):
        return False
    levels = dict(entries)

    def enough(number, one, two, pair):
        shared = len(common(one, two))
        return number >= shared and (pair is None or number >= shared + levels[pair])

    starts = starts_slowly(machine)
    steps = [(pair, reading) for pair in pairs for reading in readings_slowly(machine, pair)]
    needed = [pair for *_, pair in starts] + [reading[4] for _, reading in steps]
    if not all(pair is None or pair in levels for pair in needed):
        return False
    return (all(enough(levels[pair], *reading[2:]) for pair, reading in steps)
            and all(enough(bits, *start[1:]) for start in starts))


def is_open_slowly(machine, begin, first, first_ring, second, second_ring):
    """The conditions of point 30, one after the other."""
    s = run_slowly(machine, begin)[1]
    x, p = run_slowly(machine, first, s)
    y, q = run_slowly(machine, second, s)
    r, t = run_slowly(machine, first_ring, p), run_slowly(machine, second_ring, q)
    if not first or not second or first[0] == second[0]:
        return False
    if r[1] != p or t[1] != q or len(r[0]) != len(t[0]) or not r[0]:
        return False
    r, t = r[0], t[0]
    if x[:len(y)] == y:
        f = x[len(y):]
        return f + r == t + f
    if y[:len(x)] == x:
        f = y[len(x):]
        return r + f == f + t
    return False


class HoldTest(unittest.TestCase):
    def test_the_examples(self):
        self.assertEqual([1, None], [hold(Machine("ab", EXAMPLE)).bits, hold(Machine("ab", OPEN)).bits])

    def check(self, machine, longest):
        answer = hold(machine)
        texts = (answer.begin, answer.first, answer.first_ring, answer.second, answer.second_ring)
        self.assertTrue(are_tuples(answer.levels))
        if answer.bits is None:
            self.assertEqual((), answer.levels)
            self.assertTrue(is_open_slowly(machine, *texts))
            self.assertIs(True, is_open_paper(machine, *texts))
            self.assertTrue(all(len(text) <= 40000 for text in texts))
            return
        self.assertEqual(comes_back(machine).table, tuple(pair for pair, _ in answer.levels))
        self.assertTrue(is_paper_slowly(machine, answer.bits, answer.levels))
        self.assertIs(True, is_hold_paper(machine, answer.bits, answer.levels))
        self.assertLessEqual(shared_slowly(machine, longest), answer.bits)
        self.assertEqual((None, None), (answer.first_ring, answer.second_ring))
        standing = run_slowly(machine, answer.begin)[1]
        one, two = [run_slowly(machine, text, standing)[0] for text in (answer.first, answer.second)]
        self.assertNotEqual(answer.first[0], answer.second[0])
        self.assertEqual(answer.bits, len(common(one, two)))
        if max(len(answer.first), len(answer.second)) <= longest:
            self.assertEqual(answer.bits, shared_slowly(machine, longest))

    def test_by_the_definition(self):
        machines = coming_back(28, 120, alphabets=("ab",), longest=3) + coming_back(
            29, 20, alphabets=("abc",), standings=2, longest=5)
        found = [hold(machine).bits for machine in machines]
        self.assertTrue({None, 0, 1, 2, 3} <= set(found))
        for machine in machines:
            self.check(machine, 6 if len(machine.alphabet) == 2 else 4)

    def test_levels_by_the_definition(self):
        for machine in coming_back(281, 80, alphabets=("ab",), standings=2, longest=3):
            answer = hold(machine)
            for pair, level in answer.levels:
                self.assertLessEqual(level_slowly(machine, pair, 5), level)
                if level <= 4:
                    self.assertEqual(level_slowly(machine, pair, 8), level)

    def test_late_letters(self):
        for letters in (1, 2, 3, 4):
            machine = Machine("ab", late_rules(letters))
            self.assertEqual(letters, hold(machine).bits)
            self.check(machine, 4)

    def test_leads_that_stay_for_ever(self):
        # One half writes two bits for each letter, the other one a single bit, and either may be ahead.
        alternating = "01" * 20
        for ahead in range(5):
            for behind in range(5):
                rules = [[(1, alternating[:ahead]), (2 + behind % 2, alternating[:behind])],
                         [(1, alternating[ahead:ahead + 2]), (1, alternating[ahead:ahead + 1] * 2)],
                         [(3, "0"), (3, "00")], [(2, "1"), (2, "111")]]
                machine = Machine("ab", rules)
                self.assertTrue(comes_back(machine).holds)
                self.assertIsNone(hold(machine).bits)
                self.check(machine, 4)
                swapped = Machine("ab", [rules[0][::-1]] + rules[1:])
                self.assertIsNone(hold(swapped).bits)
                self.check(swapped, 4)

    def test_nothing_shared(self):
        answer = hold(machine=Machine.plain("ab"))
        self.assertEqual((0, ()), (answer.bits, answer.levels))
        self.check(Machine.plain("ab"), 5)
        self.check(Machine.plain("abc"), 4)
        self.assertEqual(1, hold(Machine.plain("abc")).bits)

    def test_one_letter(self):
        for rules in ([[(0, "0")]], [[(1, "")], [(1, "101")]]):
            answer = hold(Machine("a", rules))
            self.assertEqual((0, (), None, None, None, None, None),
                             (answer.bits, answer.levels, answer.begin, answer.first, answer.first_ring,
                              answer.second, answer.second_ring))

    def test_long_words(self):
        machine = Machine("ab", [[(0, "0" * 39 + "1"), (0, "0")]])
        self.assertEqual(39, hold(machine).bits)
        self.check(machine, 3)

    def test_twins(self):
        for machine in random_machines(282, 100):
            answer = comes_back(machine)
            if not answer.holds:
                with self.assertRaises(DoesNotComeBack) as caught:
                    hold(machine)
                self.assertEqual((answer.one, answer.two), (caught.exception.one, caught.exception.two))

    def test_the_same_question_again(self):
        told = []
        for machine in (Machine("ab", EXAMPLE), Machine("ab", OPEN), Machine("ab", EXAMPLE), Machine("ab", OPEN)):
            answer = hold(machine)
            told.append((answer.bits, answer.levels, answer.begin, answer.first, answer.first_ring, answer.second,
                         answer.second_ring))
        self.assertEqual(told[:2], told[2:])


class HoldPaperTest(unittest.TestCase):
    def setUp(self):
        machines = coming_back(290, 60, alphabets=("ab", "abc"), longest=3)
        self.machines = [machine for machine in machines if hold(machine).bits is not None] + [
            Machine("ab", late_rules(2)), Machine("ab", EXAMPLE), Machine.plain("abc"), Machine.plain("a")]

    def test_right_papers(self):
        for machine in self.machines:
            answer = hold(machine)
            entries = list(answer.levels)
            for shown in (entries, entries[::-1], [[list(pair), level] for pair, level in entries], tuple(entries)):
                self.assertIs(True, is_hold_paper(machine, answer.bits, shown))
                self.assertIs(True, is_hold_paper(levels=shown, bits=answer.bits + 9, machine=machine))

    def test_spoilt_papers(self):
        for machine in self.machines:
            answer = hold(machine)
            entries = list(answer.levels)
            self.assertIs(False, is_hold_paper(machine, answer.bits - 1, entries))
            for k, (pair, level) in enumerate(entries):
                self.assertIs(False, is_hold_paper(machine, answer.bits, entries[:k] + entries[k + 1:]))
                self.assertIs(False, is_hold_paper(machine, answer.bits, entries + [(pair, level)]))
                self.assertIs(False, is_hold_paper(machine, answer.bits, entries + [(pair, level + 1)]))
                lower = entries[:k] + [(pair, level - 1)] + entries[k + 1:]
                self.assertIs(False, is_hold_paper(machine, answer.bits + 50, lower))

    def test_no_smaller_number(self):
        source = random.Random(291)
        for machine in self.machines:
            answer = hold(machine)
            for _ in range(10):
                levels = [(pair, level + source.randint(-1, 1)) for pair, level in answer.levels]
                self.assertIs(False, is_hold_paper(machine, answer.bits - 1, levels))

    def test_edges(self):
        self.assertIs(True, is_hold_paper(Machine.plain("a"), 0, []))
        self.assertIs(False, is_hold_paper(Machine.plain("a"), -1, []))
        self.assertIs(False, is_hold_paper(Machine.plain("ab"), -1, []))
        self.assertIs(False, is_hold_paper(Machine.plain("a"), 5, [((0, 0, "1", ""), -1)]))
        self.assertIs(True, is_hold_paper(Machine.plain("a"), 0, [((0, 0, "1", ""), 0)]))
        # More entries than needed: they have to be right as well, and their next pairs there.
        self.assertIs(True, is_hold_paper(Machine.plain("ab"), 0, []))
        self.assertIs(False, is_hold_paper(Machine.plain("ab"), 0, [((0, 0, "1", ""), 1)]))
        machine = Machine("ab", [[(0, "00"), (0, "01")]])
        self.assertIs(True, is_hold_paper(machine, 1, [((0, 0, "11", ""), 0)]))
        self.assertIs(False, is_hold_paper(machine, 1, [((0, 0, "01", ""), 0)]))
        self.assertIs(False, is_hold_paper(machine, 0, []))
        # An endless share has no levels at all.
        self.assertIs(False, is_hold_paper(Machine("ab", OPEN), 10 ** 6,
                                           [(pair, 5) for pair in comes_back(Machine("ab", OPEN)).table]))

    def test_any_papers_by_the_definition(self):
        source = random.Random(292)
        answers = []
        for _ in range(4000):
            size = source.randint(1, 2)
            machine = Machine("ab"[:size], random_rules(source, size, source.randint(1, 2), 3))
            pairs = sorted(table_slowly(machine))
            if len(pairs) > 6:
                continue
            for _ in range(source.choice((0, 0, 1, 2))):
                lead = "".join(source.choice("01") for _ in range(source.randint(0, 3)))
                pairs.append((source.randrange(machine.standings), source.randrange(machine.standings))
                             + source.choice([(lead, ""), ("", lead)]))
            if pairs and source.random() < 0.2:
                pairs.remove(source.choice(pairs))
            source.shuffle(pairs)
            entries = [(pair, source.choice((0, 1, 2, 3, 4, 4, 5, 5, -1))) for pair in pairs]
            bits = source.choice((-1, 0, 1, 2, 3, 4, 5, 6, 7))
            answer = is_paper_slowly(machine, bits, entries)
            self.assertIs(answer, is_hold_paper(machine, bits, entries))
            answers.append(answer)
        self.assertGreater(answers.count(True), 100)
        self.assertGreater(answers.count(False), 100)

    def test_nothing_is_changed(self):
        levels = [[[1, 0, "", "1"], 0]]
        self.assertIs(True, is_hold_paper(Machine("ab", EXAMPLE), 1, levels))
        self.assertEqual([[[1, 0, "", "1"], 0]], levels)


class OpenPaperTest(unittest.TestCase):
    def test_a_right_paper(self):
        machine = Machine("ab", OPEN)
        self.assertIs(True, is_open_paper(machine, "", "a", "a", "b", "a"))
        self.assertIs(True, is_open_paper(machine, "", "b", "ab", "a", "ab"))
        self.assertIs(True, is_open_paper(second_ring="ab", second="a", first_ring="ab", first="bab", begin="",
                                          machine=machine))
        self.assertIs(True, is_open_paper(machine, "", "a", "ba", "bb", "ab"))

    def test_spoilt_papers(self):
        machine = Machine("ab", OPEN)
        for texts in (("", "", "a", "b", "a"), ("", "a", "a", "", "a"), ("", "a", "a", "aa", "a"),
                      ("a", "a", "a", "b", "a"), ("", "a", "a", "b", "b"), ("", "a", "", "b", "a"),
                      ("", "a", "a", "b", ""), ("", "a", "", "b", ""), ("", "a", "a", "b", "aa"),
                      ("", "aa", "a", "bb", "a"), ("", "a", "ab", "bb", "ab"), ("", "aa", "ab", "b", "aa")):
            self.assertIs(False, is_open_paper(machine, *texts), texts)

    def test_rings_have_to_lead_back(self):
        machine = Machine("ab", [[(1, "0"), (2, "0")], [(2, "0"), (1, "1")], [(1, "0"), (2, "1")]])
        self.assertIs(True, is_open_paper(machine, "", "a", "b", "b", "b"))
        self.assertIs(True, is_open_paper(machine, "", "a", "aa", "b", "aa"))
        self.assertIs(False, is_open_paper(machine, "", "a", "a", "b", "a"))

    def test_any_papers_by_the_definition(self):
        source = random.Random(300)
        answers = []
        machines = [Machine("ab", OPEN), Machine("ab", [[(0, "0"), (0, "01")]]), Machine("ab", EXAMPLE),
                    Machine("ab", [[(1, "01"), (2, "0")], [(1, "01"), (1, "1")], [(2, "10"), (2, "0")]])]
        machines += random_machines(301, 60, alphabets=("a", "ab"), standings=2, longest=2)
        for machine in machines:
            for _ in range(400):
                texts = ["".join(source.choice(machine.alphabet) for _ in range(source.randint(0, 3)))
                         for _ in range(5)]
                answer = is_open_slowly(machine, *texts)
                self.assertIs(answer, is_open_paper(machine, *texts))
                answers.append(answer)
        self.assertGreater(answers.count(True), 50)

    def test_long_texts(self):
        machine = Machine("ab", OPEN)
        self.assertIs(True, is_open_paper(machine, "", "a" + "b" * 39999, "ba" * 20000, "b" + "b" * 39999,
                                          "ba" * 20000))
        self.assertIs(False, is_open_paper(machine, "", "a" + "b" * 39999, "ba" * 20000, "b" + "b" * 39999,
                                           "ab" * 20000))

    def test_letters_in_order(self):
        machine = Machine("ab", OPEN)
        for texts, index in ((("x", "y", "", "", ""), 0), (("", "ax", "x", "", ""), 1), (("", "", "aax", "x", ""), 2),
                             (("", "", "", "aabc", "c"), 3), (("a", "a", "a", "a", "aaaa?"), 4)):
            with self.assertRaises(BadLetter) as caught:
                is_open_paper(machine, *texts)
            self.assertEqual(index, caught.exception.index)


if __name__ == "__main__":
    unittest.main()
