"""Point 51."""

import random
import unittest

from outpressed.errors import AlphabetsDiffer, BadLetter, TooLarge
from outpressed.leads import Lead, greatest_lead, is_lead_loop, is_lead_paper
from outpressed.machines import Machine
from tests.brute import (EXAMPLE, are_tuples, late_rules, pairs_slowly, raised, random_machines, random_rules,
                         run_slowly, texts_up_to)

PLAIN = Machine.plain("ab")
CODE = Machine("ab", [[(0, "0"), (0, "11")]])


def lead_of(one, two, text, pair=(0, 0)):
    return len(run_slowly(one, text, pair[0])[0]) - len(run_slowly(two, text, pair[1])[0])


def machines_side_by_side(seed, many, **more):
    """Two machines over one alphabet, again and again."""
    source = random.Random(seed)
    for _ in range(many):
        alphabet = source.choice(["a", "ab", "ab", "abc"])
        rules = [random_rules(source, len(alphabet), source.randint(1, 3), more.get("longest", 2)) for _ in range(2)]
        yield Machine(alphabet, rules[0]), Machine(alphabet, rules[1])


def rising(seed, many):
    """Two machines of which the one writes more than the other only a few times."""
    source = random.Random(seed)
    for _ in range(many):
        size, standings = source.randint(1, 2), source.randint(2, 4)
        rules = [[(source.randrange(k, standings), "1" * source.randint(0, 2)) for _ in range(size)]
                 for k in range(standings)]
        rules[-1] = [(standings - 1, "")] * size
        for k, row in enumerate(rules):
            rules[k] = [(following, "" if following == k else word) for following, word in row]
        yield Machine("ab"[:size], rules), Machine("ab"[:size], random_rules(source, size, source.randint(1, 2), 1))


class GreatestLeadTest(unittest.TestCase):
    def check(self, one, two, longest):
        answer = greatest_lead(one, two)
        self.assertIs(Lead, type(answer))
        self.assertEqual({"lead", "text", "levels", "begin", "loop"}, set(vars(answer)))
        self.assertTrue(are_tuples(answer.levels))
        pairs = pairs_slowly(one, two)
        texts = texts_up_to(one.alphabet, longest)
        if answer.lead is None:
            self.assertEqual((None, ()), (answer.text, answer.levels))
            self.assertIs(True, is_lead_loop(one, two, answer.begin, answer.loop))
            self.assertLessEqual(len(answer.begin), len(pairs))
            self.assertLessEqual(len(answer.loop), len(pairs))
            ends = [[run_slowly(machine, answer.begin + more)[1] for machine in (one, two)]
                    for more in ("", answer.loop)]
            self.assertEqual(ends[0], ends[1])
            self.assertGreater(lead_of(one, two, answer.begin + answer.loop), lead_of(one, two, answer.begin))
            return False
        self.assertEqual((None, None), (answer.begin, answer.loop))
        self.assertEqual(answer.lead, lead_of(one, two, answer.text))
        self.assertLess(len(answer.text), len(pairs))
        self.assertEqual(pairs, [pair for pair, _ in answer.levels])
        for pair, number in answer.levels:
            greatest = max(lead_of(one, two, text, pair) for text in texts)
            # With fewer pairs than letters, some text of so many letters is the best one.
            self.assertTrue(greatest <= number and (greatest == number or longest + 1 < len(pairs)))
        self.assertEqual(answer.lead, dict(answer.levels)[(0, 0)])
        self.assertIs(True, is_lead_paper(one, two, answer.lead, answer.levels))
        self.assertIs(False, is_lead_paper(one, two, answer.lead - 1, answer.levels))
        return True

    def test_by_the_definition(self):
        found = []
        for machines in (machines_side_by_side(51, 250), rising(510, 250)):
            for one, two in machines:
                found.append(self.check(one, two, 20 if one.alphabet == "a" else 7 if one.alphabet == "ab" else 5))
        self.assertGreater(found.count(True), 150)
        self.assertGreater(found.count(False), 150)

    def test_told_by_hand(self):
        self.assertEqual(("", (((0, 0), 0),)), (greatest_lead(PLAIN, CODE).text, greatest_lead(PLAIN, CODE).levels))
        answer = greatest_lead(CODE, PLAIN)
        self.assertEqual(("", "b"), (answer.begin, answer.loop))
        example = Machine("ab", EXAMPLE)
        self.assertTrue(self.check(example, PLAIN, 6))
        self.assertTrue(self.check(PLAIN, example, 6))
        answer = greatest_lead(PLAIN, example)
        self.assertEqual((1, "a", (((0, 0), 1), ((0, 1), 0))), (answer.lead, answer.text, answer.levels))
        self.assertEqual(0, greatest_lead(example, PLAIN).lead)
        late = Machine("ab", late_rules(3))
        answer = greatest_lead(PLAIN, late)
        self.assertEqual((3, 3), (answer.lead, len(answer.text)))
        self.assertEqual(0, greatest_lead(late, PLAIN).lead)

    def test_a_machine_beside_itself(self):
        for machine in random_machines(511, 60, standings=5):
            answer = greatest_lead(machine, machine)
            self.assertEqual((0, ""), (answer.lead, answer.text))
            self.assertEqual({0}, {number for _, number in answer.levels})

    def test_a_loop_that_wins_nothing_on_the_way_to_the_best_text(self):
        # Going round in standing 0 costs nothing, and so the best text must not do so for ever.
        one = Machine("ab", [[(0, ""), (1, "")], [(1, ""), (2, "")], [(2, ""), (3, "111")], [(3, ""), (3, "")]])
        two = Machine("ab", [[(0, ""), (0, "")]])
        self.assertTrue(self.check(one, two, 6))
        self.assertEqual((3, "bbb"), (greatest_lead(one, two).lead, greatest_lead(one, two).text))

    def test_a_loss_before_a_gain(self):
        one = Machine("a", [[(1, "")], [(2, "0")], [(2, "0")]])
        two = Machine("a", [[(1, "000")], [(2, "0")], [(3, "")], [(4, "")], [(5, "")], [(5, "0")]])
        self.assertTrue(self.check(one, two, 9))
        self.assertEqual((0, ""), (greatest_lead(one, two).lead, greatest_lead(one, two).text))
        two = Machine("a", [[(1, "0")], [(2, "0")], [(3, "")], [(4, "")], [(5, "")], [(5, "0")]])
        self.assertTrue(self.check(one, two, 9))
        self.assertEqual((2, "aaaaa"), (greatest_lead(one, two).lead, greatest_lead(one, two).text))

    def test_what_no_text_leads_to_does_no_harm(self):
        one = Machine("ab", [[(0, "0"), (0, "1")], [(1, "0" * 40), (1, "0")]])
        answer = greatest_lead(one, PLAIN)
        self.assertEqual((0, (((0, 0), 0),)), (answer.lead, answer.levels))

    def test_the_bound(self):
        # Rings of 20 and of 19 standings are in 380 pairs, and a beginning adds one pair for each of its letters.
        ring = Machine("a", [[((k + 1) % 19, "0")] for k in range(19)])
        for letters in (0, 19, 20, 21, 40):
            one = Machine("a", [[(k + 1 if k < letters + 19 else letters, "0")] for k in range(letters + 20)])
            self.assertEqual(380 + letters, len(pairs_slowly(one, ring)))
            for first, second in ((one, ring), (ring, one)):
                if letters > 20:
                    self.assertEqual((380 + letters,), raised(TooLarge, greatest_lead, first, second))
                else:
                    answer = greatest_lead(first, second)
                    self.assertEqual((0, 380 + letters), (answer.lead, len(answer.levels)))
        large = [Machine("ab", [[((k + 1) % many, "0"), (k, "1")] for k in range(many)]) for many in (60, 59)]
        self.assertEqual((3540,), raised(TooLarge, greatest_lead, *large))

    def test_long_ways(self):
        chain = Machine("ab", [[(min(k + 1, 59), "0" * 40), (0, "")] if k < 59 else [(59, ""), (59, "")]
                               for k in range(60)])
        nothing = Machine("ab", [[(0, ""), (0, "")]])
        answer = greatest_lead(chain, nothing)
        self.assertIsNone(answer.lead)
        self.assertTrue(is_lead_loop(chain, nothing, answer.begin, answer.loop))
        chain = Machine("ab", [[(min(k + 1, 59), "0" * 40), (59, "")] if k < 59 else [(59, ""), (59, "")]
                               for k in range(60)])
        answer = greatest_lead(chain, nothing)
        self.assertEqual((40 * 59, "a" * 59), (answer.lead, answer.text))

    def test_errors_in_order_and_names(self):
        large = Machine("abc", [[((k + 1) % 60, ""), (0, ""), (0, "")] for k in range(60)])
        self.assertEqual(("ab", "abc"), raised(AlphabetsDiffer, greatest_lead, PLAIN, large))
        self.assertEqual(("abc", "ab"), raised(AlphabetsDiffer, greatest_lead, large, PLAIN))
        self.assertEqual(0, greatest_lead(two=CODE, one=PLAIN).lead)

    def test_the_same_question_again(self):
        first = vars(greatest_lead(CODE, PLAIN))
        greatest_lead(PLAIN, CODE)
        self.assertEqual(first, vars(greatest_lead(Machine("ab", [[(0, "0"), (0, "11")]]), Machine.plain("ab"))))


def is_paper_slowly(one, two, lead, levels):
    pairs = [tuple(pair) for pair, _ in levels]
    told = {tuple(pair): number for pair, number in levels}
    if len(pairs) != len(told) or (0, 0) not in told or told[0, 0] > lead:
        return False
    for (p, q), number in told.items():
        if number < 0:
            return False
        for (ahead, word), (behind, other) in zip(one.rules[p], two.rules[q]):
            if (ahead, behind) not in told or number < told[ahead, behind] + len(word) - len(other):
                return False
    return True


class PaperTest(unittest.TestCase):
    def setUp(self):
        self.found = [(one, two, greatest_lead(one, two)) for one, two in list(rising(512, 60))
                      if greatest_lead(one, two).lead is not None]

    def test_right_papers_in_all_forms(self):
        self.assertGreater(len(self.found), 40)
        for one, two, answer in self.found:
            levels = list(answer.levels)
            for shown in (levels, levels[::-1], [[list(pair), number] for pair, number in levels]):
                for lead in (answer.lead, answer.lead + 7):
                    self.assertIs(True, is_lead_paper(one, two, lead, shown))
            higher = [(pair, number + 3) for pair, number in levels]
            self.assertIs(True, is_lead_paper(levels=higher, lead=answer.lead + 3, two=two, one=one))

    def test_spoilt_papers(self):
        for one, two, answer in self.found:
            levels = list(answer.levels)
            self.assertIs(False, is_lead_paper(one, two, answer.lead - 1, levels))
            self.assertIs(False, is_lead_paper(one, two, answer.lead, levels + levels[:1]))
            self.assertIs(False, is_lead_paper(one, two, answer.lead, levels + [(levels[-1][0], 99)]))
            self.assertIs(False, is_lead_paper(one, two, answer.lead, []))
            for place, (pair, number) in enumerate(levels):
                self.assertIs(False, is_lead_paper(one, two, answer.lead, levels[:place] + levels[place + 1:]))
                less = levels[:place] + [(pair, number - 1)] + levels[place + 1:]
                self.assertIs(False, is_lead_paper(one, two, answer.lead, less))

    def test_more_entries_than_needed(self):
        one = Machine("a", [[(0, "0")], [(1, "00")]])
        two = Machine("a", [[(0, "0")], [(1, "0")]])
        self.assertIs(True, is_lead_paper(one, two, 0, [((0, 0), 0)]))
        self.assertIs(True, is_lead_paper(one, two, 0, [((0, 1), 5), ((0, 0), 0)]))
        # The conditions hold for entries to which no text leads, too.
        self.assertIs(False, is_lead_paper(one, two, 0, [((1, 0), 5), ((0, 0), 0)]))
        self.assertIs(False, is_lead_paper(one, two, 0, [((0, 1), -1), ((0, 0), 0)]))
        self.assertIs(False, is_lead_paper(one, two, 0, [((0, 1), 0)]))
        self.assertIs(False, is_lead_paper(one, two, -1, [((0, 0), -1)]))

    def test_any_papers_by_the_definition(self):
        source = random.Random(513)
        answers = []
        for _ in range(60):
            for one, two, answer in self.found:
                levels = [[pair, number + source.choice((0, 0, 0, 0, 1, -1))] for pair, number in answer.levels]
                if source.random() < 0.3:
                    levels.append([(source.randrange(one.standings), source.randrange(two.standings)),
                                   source.randint(-1, 3)])
                source.shuffle(levels)
                lead = answer.lead + source.choice((0, 1, 1, -1))
                told = is_paper_slowly(one, two, lead, levels)
                self.assertIs(told, is_lead_paper(one, two, lead, levels))
                answers.append(told)
        self.assertGreater(answers.count(True), 200)
        self.assertGreater(answers.count(False), 200)

    def test_no_paper_where_the_lead_grows(self):
        for one, two in machines_side_by_side(514, 60):
            if greatest_lead(one, two).lead is None:
                for number in (0, 5, 10 ** 30):
                    levels = [(pair, number) for pair in pairs_slowly(one, two)]
                    self.assertIs(False, is_lead_paper(one, two, 10 ** 31, levels))

    def test_nothing_is_changed_and_errors(self):
        levels = [[[0, 0], 0]]
        self.assertIs(True, is_lead_paper(PLAIN, CODE, 0, levels))
        self.assertEqual([[[0, 0], 0]], levels)
        self.assertEqual(("ab", "abc"), raised(AlphabetsDiffer, is_lead_paper, PLAIN, Machine.plain("abc"), 0, levels))


class LoopTest(unittest.TestCase):
    def test_by_the_definition(self):
        answers = []
        for one, two in machines_side_by_side(515, 25):
            texts = texts_up_to(one.alphabet, 3)
            for begin in texts:
                for loop in texts:
                    ends = [run_slowly(one, begin)[1], run_slowly(two, begin)[1]]
                    bits, last = run_slowly(one, loop, ends[0])
                    other, behind = run_slowly(two, loop, ends[1])
                    told = [last, behind] == ends and len(bits) > len(other)
                    self.assertIs(told, is_lead_loop(one, two, begin, loop))
                    answers.append(told)
        self.assertGreater(answers.count(True), 200)
        self.assertGreater(answers.count(False), 200)

    def test_one_machine_comes_round_and_the_other_one_does_not(self):
        one = Machine("a", [[(1, "000")], [(0, "0")]])
        self.assertIs(False, is_lead_loop(one, Machine("a", [[(0, "")]]), "", "a"))
        self.assertIs(True, is_lead_loop(one, Machine("a", [[(0, "")]]), "", "aa"))
        self.assertIs(False, is_lead_loop(Machine("a", [[(0, "00")]]), Machine("a", [[(1, "")], [(0, "")]]), "", "a"))
        self.assertIs(False, is_lead_loop(one, Machine("a", [[(0, "00")]]), "", "aa"))
        self.assertIs(False, is_lead_loop(one, Machine("a", [[(0, "")]]), "a", ""))
        self.assertIs(True, is_lead_loop(loop="aa", begin="a", two=Machine("a", [[(0, "0")]]), one=one))

    def test_errors_in_order(self):
        self.assertEqual(("ab", "01"), raised(AlphabetsDiffer, is_lead_loop, PLAIN, Machine.plain("01"), "x", "x"))
        self.assertEqual((1,), raised(BadLetter, is_lead_loop, PLAIN, CODE, "ac", "c"))
        self.assertEqual((0,), raised(BadLetter, is_lead_loop, PLAIN, CODE, "aa", "cb"))
        self.assertEqual((2,), raised(BadLetter, is_lead_loop, PLAIN, CODE, "", "ba0"))


if __name__ == "__main__":
    unittest.main()
