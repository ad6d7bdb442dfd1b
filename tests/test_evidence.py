"""Points 57 to 59."""

import random
import unittest
from itertools import product

from outpressed.blockmachines import block_machine
from outpressed.errors import AlphabetsDiffer, BadLetter
from outpressed.evidence import (best_joins, is_best_joins, is_least_paper, is_sameness_paper, least_paper,
                                 sameness_paper)
from outpressed.machines import Machine
from outpressed.rivals import best_one
from outpressed.sameness import least_machine, same_writing
from tests.brute import (EXAMPLE, are_tuples, late_rules, pairs_slowly, raised, random_machines, random_rules,
                         reached_slowly, run_slowly, texts_up_to)

EXAMPLE_MACHINE = Machine("ab", EXAMPLE)
PLAIN = Machine.plain("ab")


def spread(machine, source):
    """A machine that writes the same, with several standings for each one, of which some are perhaps not reached."""
    copies = source.randint(2, 3)
    return Machine(machine.alphabet, [[(following + machine.standings * source.randrange(copies), word)
                                       for following, word in row] for row in machine.rules * copies])


def is_sameness_slowly(one, two, table):
    table = {tuple(pair) for pair in table}
    return (0, 0) in table and all(
        one.rules[p][k][1] == two.rules[q][k][1] and (one.rules[p][k][0], two.rules[q][k][0]) in table
        for p, q in table for k in range(len(one.alphabet)))


class SamenessTest(unittest.TestCase):
    def test_by_the_definition(self):
        source = random.Random(57)
        same = 0
        for machine in random_machines(570, 250, standings=4):
            for other in (machine, spread(machine, source), least_machine(machine), spread(machine, source),
                          Machine(machine.alphabet, random_rules(source, len(machine.alphabet), 2, 2))):
                for one, two in ((machine, other), (other, machine)):
                    paper = sameness_paper(one, two)
                    if same_writing(one, two) is None:
                        self.assertEqual(tuple(pairs_slowly(one, two)), paper)
                        self.assertTrue(are_tuples(paper))
                        self.assertIs(True, is_sameness_paper(one, two, paper))
                        same += 1
                    else:
                        self.assertIsNone(paper)
        self.assertGreater(same, 1000)

    def test_told_by_hand(self):
        two = Machine("ab", [[(1, "0"), (1, "1")], [(0, "0"), (0, "1")]])
        self.assertEqual(((0, 0), (0, 1)), sameness_paper(PLAIN, two))
        self.assertEqual(((0, 0), (1, 0)), sameness_paper(two=PLAIN, one=two))
        self.assertIsNone(sameness_paper(PLAIN, EXAMPLE_MACHINE))

    def test_papers_in_all_forms_and_spoilt(self):
        source = random.Random(571)
        for machine in random_machines(572, 60, standings=4):
            other = spread(machine, source)
            paper = list(sameness_paper(machine, other))
            for shown in (paper, paper[::-1], paper + paper, [list(pair) for pair in paper], tuple(paper)):
                self.assertIs(True, is_sameness_paper(machine, other, shown))
            for pair in paper:
                self.assertIs(False, is_sameness_paper(machine, other, [one for one in paper if one != pair]))
            self.assertIs(False, is_sameness_paper(machine, other, []))

    def test_any_papers_by_the_definition(self):
        source = random.Random(573)
        answers = []
        for _ in range(1500):
            size = source.randint(1, 2)
            one, two = [Machine("ab"[:size], random_rules(source, size, source.randint(1, 2), 1)) for _ in range(2)]
            table = [(p, q) for p in range(one.standings) for q in range(two.standings) if source.random() < 0.7]
            source.shuffle(table)
            answer = is_sameness_slowly(one, two, table)
            self.assertIs(answer, is_sameness_paper(table=table, two=two, one=one))
            answers.append(answer)
            if answer:
                self.assertIsNone(same_writing(one, two))
        self.assertGreater(answers.count(True), 20)

    def test_pairs_that_no_text_leads_to(self):
        one = Machine("a", [[(0, "1")], [(1, "0")], [(1, "00")]])
        self.assertIs(True, is_sameness_paper(one, one, [(0, 0), (1, 1)]))
        self.assertIs(True, is_sameness_paper(one, one, [(2, 2), (0, 0), (1, 1)]))
        self.assertIs(False, is_sameness_paper(one, one, [(0, 0), (2, 2)]))
        self.assertIs(False, is_sameness_paper(one, one, [(0, 0), (1, 2)]))
        self.assertIs(False, is_sameness_paper(one, one, [(1, 1), (2, 2)]))

    def test_alphabets_differ(self):
        for call in (sameness_paper, lambda one, two: is_sameness_paper(one, two, [])):
            self.assertEqual(("ab", "01"), raised(AlphabetsDiffer, call, PLAIN, Machine.plain("01")))

    def test_nothing_is_changed_and_large_ones(self):
        table = [[0, 0]]
        self.assertIs(True, is_sameness_paper(PLAIN, PLAIN, table))
        self.assertEqual([[0, 0]], table)
        one, two = [Machine("ab", [[((k + 1) % many, "0"), ((k * 7 + 1) % many, "1")] for k in range(many)])
                    for many in (60, 59)]
        paper = sameness_paper(one, two)
        self.assertEqual(3540, len(paper))
        self.assertIs(True, is_sameness_paper(one, two, paper))


def parted_slowly(machine, p, q, longest):
    """The least text with at most so many letters for which different bits are written, or None."""
    for text in texts_up_to(machine.alphabet, longest):
        if run_slowly(machine, text, p)[0] != run_slowly(machine, text, q)[0]:
            return text
    return None


def is_least_slowly(machine, reach, parting):
    if [run_slowly(machine, text)[1] for text in reach] != list(range(machine.standings)):
        return False
    if any(p >= q or run_slowly(machine, text, p)[0] == run_slowly(machine, text, q)[0] for p, q, text in parting):
        return False
    return {(p, q) for p, q, _ in parting} == {(p, q) for q in range(machine.standings) for p in range(q)}


class LeastTest(unittest.TestCase):
    def check(self, machine, longest=6):
        answer = least_paper(machine)
        if len(reached_slowly(machine)) < machine.standings or least_machine(machine).standings < machine.standings:
            self.assertIsNone(answer)
            return False
        reach, parting = answer
        self.assertTrue(isinstance(answer, tuple) and are_tuples(answer))
        first = {}
        for text in texts_up_to(machine.alphabet, longest):
            first.setdefault(run_slowly(machine, text)[1], text)
        self.assertEqual(machine.standings, len(reach))
        self.assertEqual([first.get(k, reach[k]) for k in range(machine.standings)], list(reach))
        pairs = [(p, q) for p in range(machine.standings) for q in range(p + 1, machine.standings)]
        self.assertEqual(pairs, [entry[:2] for entry in parting])
        for p, q, text in parting:
            self.assertIn(parted_slowly(machine, p, q, longest), (text, None))
            self.assertNotEqual(run_slowly(machine, text, p)[0], run_slowly(machine, text, q)[0])
        self.assertIs(True, is_least_paper(machine, reach, parting))
        return True

    def test_by_the_definition(self):
        found = []
        for options in ({}, {"standings": 5, "longest": 1}, {"standings": 6, "longest": 1, "alphabets": ("a", "ab")}):
            for machine in random_machines(58, 200, **options):
                found.append(self.check(machine))
                self.assertTrue(self.check(least_machine(machine)))
        self.assertGreater(found.count(True), 100)
        self.assertGreater(found.count(False), 100)

    def test_told_by_hand(self):
        self.assertEqual((("", "a"), ((0, 1, "a"),)), least_paper(machine=EXAMPLE_MACHINE))
        self.assertEqual((("",), ()), least_paper(PLAIN))
        # In another order of the standings it is the least one all the same.
        machine = Machine("ab", [[(2, ""), (1, "")], [(0, "0"), (0, "1")], [(0, "0"), (0, "11")]])
        self.assertEqual((("", "b", "a"), ((0, 1, "a"), (0, 2, "a"), (1, 2, "b"))), least_paper(machine))
        self.assertIsNone(least_paper(Machine("a", [[(0, "0")], [(0, "1")]])))
        self.assertIsNone(least_paper(Machine("a", [[(1, "0")], [(0, "0")]])))

    def test_bits_that_are_shifted(self):
        # From both standings the same bits are written for aa, but not for a.
        machine = Machine("ab", [[(1, "0"), (2, "")], [(1, "10"), (0, "0")], [(3, "01"), (0, "1")], [(3, "0"), (1, "")]])
        self.assertTrue(self.check(machine))

    def test_texts_that_part_only_late(self):
        chain = Machine("ab", [[((k + 1) % 60, "0"), (0, "0" if k < 59 else "1")] for k in range(60)])
        self.assertTrue(self.check(chain, 3))
        reach, parting = least_paper(chain)
        self.assertEqual(["a" * k for k in range(60)], list(reach))
        self.assertEqual((0, 1, "a" * 58 + "b"), parting[0])
        self.assertEqual(1770, len(parting))
        for machine in (block_machine("ab", 5), Machine("ab", late_rules(4)), block_machine("abc", 4)):
            self.check(machine, 5)

    def test_larger_ones_that_the_program_has_returned(self):
        one = Machine("a", [[((k + 1) % 13, "0" if k else "1")] for k in range(13)])
        two = Machine("01", [[((k + 1) % 17, "0" if k else "1"), ((k + 1) % 17, "00")] for k in range(17)])
        machine = one >> two
        self.assertEqual(221, machine.standings)
        reach, parting = least_paper(machine)
        self.assertEqual(221 * 110, len(parting))
        self.assertEqual(tuple("a" * k for k in range(221)), reach)
        self.assertIs(True, is_least_paper(machine, reach, parting))

    def test_papers_in_all_forms_and_spoilt(self):
        for machine in random_machines(580, 80, standings=5, longest=1):
            machine = least_machine(machine)
            reach, parting = least_paper(machine)
            entries = [list(entry) for entry in parting]
            for shown in (parting, entries, entries[::-1], entries + entries):
                self.assertIs(True, is_least_paper(machine, list(reach), shown))
                self.assertIs(True, is_least_paper(machine, reach, tuple(shown)))
            self.assertIs(False, is_least_paper(machine, reach[:-1], parting))
            self.assertIs(False, is_least_paper(machine, reach + ("",), parting))
            self.assertIs(False, is_least_paper(machine, (), parting))
            for place, (p, q, text) in enumerate(entries):
                others = entries[:place] + entries[place + 1:]
                self.assertIs(False, is_least_paper(machine, reach, others))
                self.assertIs(False, is_least_paper(machine, reach, others + [(q, p, text)]))
                self.assertIs(False, is_least_paper(machine, reach, entries + [(q, p, text)]))
                self.assertIs(False, is_least_paper(machine, reach, entries + [(p, p, text)]))
                self.assertIs(False, is_least_paper(machine, reach, entries + [(p, q, "")]))
            if machine.standings > 1:
                self.assertIs(False, is_least_paper(machine, reach[::-1], parting))

    def test_any_papers_by_the_definition(self):
        source = random.Random(581)
        answers = []
        for machine in random_machines(582, 1500, alphabets=("a", "ab"), longest=1):
            texts = texts_up_to(machine.alphabet, 2)
            reach = [source.choice(texts) for _ in range(machine.standings)]
            parting = [(p, q, source.choice(texts)) for q in range(machine.standings) for p in range(q)
                       if source.random() < 0.9]
            answer = is_least_slowly(machine, reach, parting)
            self.assertIs(answer, is_least_paper(parting=parting, reach=reach, machine=machine))
            answers.append(answer)
            if answer:
                self.assertEqual(machine.standings, least_machine(machine).standings)
        self.assertGreater(answers.count(True), 50)

    def test_other_texts_than_the_least_ones(self):
        self.assertIs(True, is_least_paper(EXAMPLE_MACHINE, ["bb", "bba"], [(0, 1, "ba")]))
        self.assertIs(True, is_least_paper(EXAMPLE_MACHINE, ["", "a"], [(0, 1, "a"), (0, 1, "ba")]))
        self.assertIs(False, is_least_paper(EXAMPLE_MACHINE, ["", "b"], [(0, 1, "a")]))
        self.assertIs(True, is_least_paper(PLAIN, ["abab"], []))
        self.assertIs(False, is_least_paper(PLAIN, [], []))

    def test_errors_in_order(self):
        self.assertEqual((1,), raised(BadLetter, is_least_paper, PLAIN, ["", "ac", "c"], [(0, 0, "c")]))
        self.assertEqual((0,), raised(BadLetter, is_least_paper, PLAIN, ["", "a", "b"], [(0, 0, "c"), (0, 0, "ac")]))
        self.assertEqual((2,), raised(BadLetter, is_least_paper, PLAIN, [], [(0, 0, ""), [0, 0, "ab "]]))
        self.assertEqual((0,), raised(BadLetter, is_least_paper, PLAIN, ["0"], []))


def joins_slowly(counts):
    numbers, joins = list(counts), []
    while len(numbers) > 1:
        one = min(numbers)
        numbers.remove(one)
        two = min(numbers)
        numbers.remove(two)
        joins.append((one, two))
        numbers.append(one + two)
    return tuple(joins)


class JoinsTest(unittest.TestCase):
    def test_by_the_definition(self):
        source = random.Random(59)
        for _ in range(300):
            counts = [source.choice((0, 1, 1, 2, 3, 5, 8, 100, 10 ** 30)) for _ in range(source.randint(2, 6))]
            joins = best_joins(counts)
            self.assertEqual(joins_slowly(counts), joins)
            self.assertTrue(are_tuples(joins))
            self.assertEqual(joins, best_joins(tuple(counts[::-1])))
            self.assertIs(True, is_best_joins(counts, joins))
            self.assertIs(True, is_best_joins(tuple(counts), [list(pair) for pair in joins]))

    def test_their_sum_is_what_the_best_machine_writes(self):
        for counts in product(range(4), repeat=3):
            text = "".join(letter * count for letter, count in zip("abc", counts))
            self.assertEqual(sum(map(sum, best_joins(counts))), len(best_one("abc", text)(text)))
        for counts in ((1, 1, 2, 3, 5, 8), (0, 0, 0, 0, 0, 0), (7, 7, 7, 7, 7, 7), (40, 0, 1, 0, 2, 3)):
            text = "".join(letter * count for letter, count in zip("abcdef", counts))
            self.assertEqual(sum(map(sum, best_joins(counts))), len(best_one("abcdef", text)(text)))

    def test_told_by_hand(self):
        self.assertEqual(((1, 1), (2, 3)), best_joins([3, 1, 1]))
        self.assertEqual(((0, 0), (0, 0)), best_joins(counts=(0, 0, 0)))
        self.assertEqual(((5, 5),), best_joins([5, 5]))
        self.assertEqual(((0, 7),), best_joins([7, 0]))
        self.assertEqual(((1, 1), (1, 1), (2, 2)), best_joins([1, 1, 1, 1]))
        self.assertEqual(((1, 2), (3, 3), (4, 6)), best_joins([1, 2, 3, 4]))

    def test_other_joins(self):
        for joins in ([], [(1, 1)], [(1, 1), (3, 2)], [(1, 1), (2, 3), (5, 0)], [(1, 3), (1, 4)], [(2, 3), (1, 1)],
                      [(1, 1), (2, 3), (2, 3)], [(1, 1), (1, 1), (2, 3)], [(-1, 1), (2, 3)], [(1, 1), (2, 4)]):
            self.assertIs(False, is_best_joins([3, 1, 1], joins))
        self.assertIs(True, is_best_joins(joins=((1, 1), [2, 3]), counts=(3, 1, 1)))
        self.assertIs(False, is_best_joins([0, 1], [(1, 0)]))
        self.assertIs(True, is_best_joins([0, 1], [(0, 1)]))

    def test_nothing_is_changed(self):
        counts, joins = [3, 1, 1], [[1, 1], [2, 3]]
        self.assertIs(True, is_best_joins(counts, joins))
        best_joins(counts)
        self.assertEqual(([3, 1, 1], [[1, 1], [2, 3]]), (counts, joins))


if __name__ == "__main__":
    unittest.main()
