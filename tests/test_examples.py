"""The examples of the section "The interface", as they stand there."""

import unittest

from outpressed.errors import PressError

EXAMPLES = """
>>> from outpressed.cuts import cut_of
>>> cut = cut_of("ab", "abababb")
>>> [cut.rows, cut.tail, cut.starts]
[((0, 'a'), (0, 'b'), (1, 'b'), (3, 'b')), 0, (0, 1, 2, 4, 7)]

>>> from outpressed.blocks import press
>>> press("ab", "abababb")
'0101010101000000'

>>> from outpressed.machines import Machine
>>> machine = Machine("ab", [[(1, ""), (0, "1")], [(0, "00"), (0, "01")]])
>>> machine.run("aaba")
('001', 1)

>>> from outpressed.machines import Machine
>>> from outpressed.sameness import same_writing
>>> machine = Machine("ab", [[(1, ""), (0, "1")], [(0, "00"), (0, "01")]])
>>> same_writing(machine, Machine.plain("ab"))
'a'

>>> from outpressed.machines import Machine
>>> from outpressed.averages import heaviest, lightest, total_bits, weight_sum
>>> machine = Machine("ab", [[(1, ""), (0, "1")], [(0, "00"), (0, "01")]])
>>> [total_bits(machine, 2), lightest(machine, 2), heaviest(machine, 2), weight_sum(machine, 2)]
[7, (1, 'ba'), (2, 'aa'), (5, 4)]

>>> from outpressed.machines import Machine
>>> from outpressed.pairs import pair_moves, starting_pairs
>>> machine = Machine("ab", [[(1, ""), (0, "1")], [(0, "00"), (0, "01")]])
>>> [starting_pairs(machine), pair_moves(machine, (1, 0, "", "1"))]
[((1, 0, '', '1'),), ()]

>>> from outpressed.machines import Machine
>>> from outpressed.readbacks import comes_back
>>> machine = Machine("ab", [[(1, ""), (0, "1")], [(0, "00"), (0, "01")]])
>>> answer = comes_back(machine)
>>> [answer.holds, answer.heights, answer.table]
[True, (1, 0), ((1, 0, '', '1'),)]

>>> from outpressed.machines import Machine
>>> from outpressed.readbacks import comes_back
>>> answer = comes_back(Machine("ab", [[(0, "0"), (0, "00")]]))
>>> [answer.holds, answer.one, answer.two]
[False, 'b', 'aa']

>>> from outpressed.machines import Machine
>>> from outpressed.holds import hold
>>> machine = Machine("ab", [[(1, ""), (0, "1")], [(0, "00"), (0, "01")]])
>>> other = Machine("ab", [[(1, ""), (2, "")], [(1, "0"), (1, "1")], [(2, "0"), (2, "1")]])
>>> [hold(machine).bits, hold(other).bits]
[1, None]

>>> from outpressed.machines import Machine
>>> from outpressed.readers import Reader
>>> machine = Machine("ab", [[(1, ""), (0, "1")], [(0, "00"), (0, "01")]])
>>> reader = Reader(machine)
>>> [reader.feed("0"), reader.feed("01"), reader.certain, reader.finish(1)]
['a', 'ab', 'aab', 'aaba']

>>> from outpressed.floors import floor_bits, shared_total
>>> [floor_bits(1, 14), floor_bits(2, 14), shared_total(14, 1)]
[34, 18, 31]

>>> from outpressed.machines import Machine
>>> from outpressed.duels import duel
>>> machine = Machine("ab", [[(1, ""), (0, "1")], [(0, "00"), (0, "01")]])
>>> answer = duel(machine, "aabab")
>>> [answer.pieces, answer.machine_bits, answer.presser_bits, answer.floor, answer.told, answer.lead]
[2, 5, 9, 1, 13, 4]

>>> from outpressed.rivals import best_one
>>> machine = best_one("abc", "aabac")
>>> len(machine("aabac"))
7

>>> from outpressed.rounds import Round, pieces_bound, word_count
>>> endless = Round("ab", "aab", "abab")
>>> [endless.head, endless.ring, endless.variety, word_count(endless, 2), pieces_bound(endless, 6)]
['a', 'ab', 3, 3, 4]

>>> from outpressed.machines import Machine
>>> from outpressed.rates import greatest_rate, least_rate
>>> machine = Machine("ab", [[(0, "0"), (0, "10")]])
>>> [least_rate(machine).rate, greatest_rate(machine).rate]
[(1, 1), (2, 1)]

>>> from outpressed.overtaking import overtaken_from
>>> overtaken_from(2, 1, 1)
24

>>> from outpressed.machines import Machine
>>> from outpressed.racing import ahead_from
>>> from outpressed.rounds import Round
>>> ahead_from(Machine.plain("a"), Round("a", "", "a"))
7

>>> from outpressed.lots import lot_counting
>>> from outpressed.lotcounts import lot_count, rank_in, text_at
>>> lot = lot_counting("ab", "a", 0, 2)
>>> [lot_count(lot, 3), rank_in(lot, "bbb"), text_at(lot, 3, 2)]
[4, 3, 'baa']

>>> from outpressed.lots import lot_of
>>> from outpressed.lotwriting import texts_writing, written_lot
>>> from outpressed.machines import Machine
>>> machine = Machine("ab", [[(1, ""), (0, "1")], [(0, "00"), (0, "01")]])
>>> bits = written_lot(machine, lot_of("ab", ["aa", "b"]))
>>> texts = texts_writing(machine, lot_of("01", ["1"]))
>>> ["00" in bits, "1" in bits, "0" in bits, "b" in texts, "ba" in texts, "bb" in texts]
[True, True, False, True, True, False]

>>> from outpressed.lotreadbacks import comes_back_on
>>> from outpressed.lots import lot_of
>>> from outpressed.machines import Machine
>>> machine = Machine("ab", [[(0, "0"), (0, "00")]])
>>> answer = comes_back_on(machine, lot_of("ab", ["aa", "b"]))
>>> [comes_back_on(machine, lot_of("ab", ["a", "b"])).holds, answer.holds, answer.one, answer.two]
[True, False, 'b', 'aa']

>>> from outpressed.leads import greatest_lead
>>> from outpressed.machines import Machine
>>> code = Machine("ab", [[(0, "0"), (0, "11")]])
>>> plain = Machine.plain("ab")
>>> [greatest_lead(plain, code).lead, greatest_lead(code, plain).lead]
[0, None]

>>> from outpressed.builds import Build
>>> Build("ab", "late(plain>")
raises BadBuild(11)

>>> from outpressed.builds import Build
>>> Build("abc", "code(0,10)>plain")
raises BadBuild(9)

>>> from outpressed.builds import Build
>>> from outpressed.buildwords import words_of
>>> words_of(Build("ab", "late(plain)>code(0,11)"), "aba")
('', '0', '11')

>>> from outpressed.builds import Build
>>> from outpressed.grades import grade
>>> [grade(Build("ab", "code(0,10)")), grade(Build("ab", "late(code(0,01))")), grade(Build("ab", "turns(plain,blocks(2))"))]
[2, 1, 0]

>>> from outpressed.named import named_words
>>> [named_words("steps", "abc", "abca"), named_words("mixed", "abc", "cc")]
[('00', '01', '01', '01'), ('10', '11')]

>>> from outpressed.evidence import best_joins
>>> best_joins([3, 1, 1])
((1, 1), (2, 3))

>>> from outpressed.grown import Grown
>>> from outpressed.grownruns import grown_run
>>> from outpressed.machines import Machine
>>> grown = Grown("ab", ["a", "b", (0, 1), (2, 2)])
>>> [grown.lengths, grown.stretch(1, 3), grown_run(Machine.plain("ab"), grown)]
[(1, 1, 2, 4), 'ba', (4, 0)]

>>> from outpressed.deeds import perform
>>> from outpressed.workshops import Workshop
>>> workshop = Workshop("ab")
>>> answers = perform(workshop, [["make", "x", "plain"], ["make", "y", "code(0,11)"], ["change", "x", 0, "c", 0, "1"], ["undo"]])
>>> [answers, list(workshop), workshop.ranking("ab")]
[(None, None, 'BadLetter', None), ['x'], ((2, 'x'),)]
"""


def answer_of(rows):
    """What the last one of the rows gives, as the document writes it."""
    names = {}
    for row in rows[:-1]:
        exec(row, names)
    try:
        return repr(eval(rows[-1], names))
    except PressError as error:
        told = ", ".join(repr(value) for value in vars(error).values())
        return f"raises {type(error).__name__}({told})"


class ExamplesTest(unittest.TestCase):
    def test_examples(self):
        many = 0
        for example in EXAMPLES.strip().split("\n\n"):
            *rows, answer = example.split("\n")
            self.assertTrue(all(row.startswith(">>> ") for row in rows))
            self.assertEqual(answer, answer_of([row[4:] for row in rows]), example)
            many += 1
        self.assertEqual(29, many)


if __name__ == "__main__":
    unittest.main()
