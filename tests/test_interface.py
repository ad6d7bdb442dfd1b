"""The names, arguments and kinds of the section "The interface", for all that has landed, and points 2 to 4."""

import importlib
import inspect
import unittest

from outpressed import averages, blockmachines, blocks, buildmachines, builds, buildwords, cuts, deeds, duels, evidence
from outpressed import excesses, floors, grades, grown, grownruns, holds, instants, leads, lotcounts, lotrates
from outpressed import lotreadbacks, lots, lotwriting, machines, named, overtaking, pairs, racing, rates, readbacks
from outpressed import readers, rivals, roundruns, rounds, sameness, simplifying, stretches, widths, workshops
from tests.brute import EXAMPLE, are_tuples

FUNCTIONS = {
    "cuts": ["cut_of(alphabet, text)"],
    "widths": ["width(options)", "number_bits(number, options)"],
    "blocks": ["press(alphabet, text)", "pressed_length(size, count)"],
    "stretches": ["fill(length, counts)"],
    "machines": [],
    "sameness": ["same_writing(one, two)", "least_machine(machine)"],
    "blockmachines": ["block_machine(alphabet, length)"],
    "averages": ["total_bits(machine, length)", "lightest(machine, length)", "heaviest(machine, length)",
                 "weight_sum(machine, length)"],
    "pairs": ["are_twins(machine, one, two)", "starting_pairs(machine)", "pair_moves(machine, pair)",
              "walk_room(machine)"],
    "readbacks": ["comes_back(machine)", "is_readback_paper(machine, heights, table)"],
    "holds": ["hold(machine)", "is_hold_paper(machine, bits, levels)",
              "is_open_paper(machine, begin, first, first_ring, second, second_ring)"],
    "readers": ["read_back(machine, bits, last)"],
    "floors": ["shared_total(count, share)", "floor_bits(standings, count)"],
    "excesses": ["excess(size, standings, count)", "told_excess(size, standings, count)"],
    "duels": ["duel(machine, text)"],
    "instants": ["is_instant(machine)"],
    "rivals": ["best_one(alphabet, text)"],
    "rounds": ["word_count(endless, length)", "pieces_bound(endless, length)"],
    "roundruns": ["settle(machine, endless)", "bits_on(machine, endless, length)", "rate_on(machine, endless)"],
    "rates": ["least_rate(machine)", "greatest_rate(machine)", "is_rate_paper(machine, side, rate, levels)"],
    "overtaking": ["overtaken_from(size, variety, standings)"],
    "racing": ["ahead_from(machine, endless)"],
    "lots": ["lot_of(alphabet, texts)", "lot_containing(alphabet, word)",
             "lot_counting(alphabet, letter, rest, modulus)"],
    "lotcounts": ["lot_count(lot, length)", "rank_in(lot, text)", "text_at(lot, length, rank)",
                  "lot_bits(machine, lot, length)", "lot_lightest(machine, lot, length)",
                  "lot_heaviest(machine, lot, length)"],
    "lotwriting": ["texts_writing(machine, bit_lot)", "written_lot(machine, lot)"],
    "lotreadbacks": ["lot_room(machine, lot)", "comes_back_on(machine, lot)", "are_lot_twins(machine, lot, one, two)",
                     "is_lot_paper(machine, lot, table)"],
    "lotrates": ["goes_through(endless, lot)", "lot_rates(machine, lot)"],
    "leads": ["greatest_lead(one, two)", "is_lead_paper(one, two, lead, levels)",
              "is_lead_loop(one, two, begin, loop)"],
    "builds": [],
    "buildwords": ["words_of(build, text)"],
    "buildmachines": ["machine_of_build(build)"],
    "grades": ["grade(build)"],
    "simplifying": ["simplified(build)"],
    "named": ["named_build(name, alphabet)", "named_words(name, alphabet, text)"],
    "evidence": ["sameness_paper(one, two)", "is_sameness_paper(one, two, table)", "least_paper(machine)",
                 "is_least_paper(machine, reach, parting)", "best_joins(counts)", "is_best_joins(counts, joins)"],
    "grown": ["grown_of(alphabet, text)", "powered(grown, times)", "beginning_of(endless, length)"],
    "grownruns": ["grown_run(machine, grown, *, start=0)", "grown_bits(machine, grown, start, end)",
                  "grown_in(grown, lot)", "grown_letters(grown)"],
    "workshops": [],
    "deeds": ["perform(workshop, deeds)"],
}
CLASSES = {
    ("cuts", "Cut"): ["__init__(self, alphabet, rows, tail)", "__eq__(self, other)"],
    ("machines", "Machine"): ["__init__(self, alphabet, rules)", "run(self, text, *, start=0)",
                              "last_after(self, text)", "__call__(self, text)", "__eq__(self, other)",
                              "__rshift__(self, other)"],
    ("readbacks", "Readback"): [],
    ("holds", "Hold"): [],
    ("readers", "Reader"): ["__init__(self, machine)", "feed(self, bits)", "finish(self, last)"],
    ("duels", "Duel"): [],
    ("rounds", "Round"): ["__init__(self, alphabet, head, ring)", "letter_of(self, index)", "beginning(self, length)",
                          "__eq__(self, other)"],
    ("rates", "Rate"): [],
    ("lots", "Lot"): ["__init__(self, alphabet, rows)", "__eq__(self, other)", "__contains__(self, text)",
                      "__invert__(self)", "__and__(self, other)", "__or__(self, other)", "__sub__(self, other)"],
    ("lotreadbacks", "LotReadback"): [],
    ("lotrates", "LotRates"): [],
    ("leads", "Lead"): [],
    ("builds", "Build"): ["__init__(self, alphabet, text)"],
    ("grown", "Grown"): ["__init__(self, alphabet, rules)", "letter_of(self, index)", "stretch(self, start, end)",
                         "__add__(self, other)", "__eq__(self, other)"],
    ("workshops", "Workshop"): ["__init__(self, alphabet)", "keep(self, name, machine)", "make(self, name, text)",
                                "change(self, name, standing, letter, following, word)",
                                "lead_on(self, name, text, other)", "shorten(self, name)", "rename(self, name, other)",
                                "drop(self, name)", "undo(self)", "redo(self)", "machine_of(self, name)",
                                "is_sure(self, name)", "lead_between(self, name, other)", "ranking(self, text)",
                                "alike(self, name)", "__contains__(self, name)", "__len__(self)", "__iter__(self)"],
}


class InterfaceTest(unittest.TestCase):
    def test_functions(self):
        for name, signatures in FUNCTIONS.items():
            module = importlib.import_module("outpressed." + name)
            for told in signatures:
                function = getattr(module, told.partition("(")[0])
                self.assertEqual(told, function.__name__ + str(inspect.signature(function)))
                self.assertEqual(module.__name__, function.__module__)

    def test_classes(self):
        for (name, kind), signatures in CLASSES.items():
            module = importlib.import_module("outpressed." + name)
            found = getattr(module, kind)
            self.assertEqual(module.__name__, found.__module__)
            for told in signatures:
                method = vars(found)[told.partition("(")[0]]
                self.assertEqual(told, method.__name__ + str(inspect.signature(method)))
        self.assertIsInstance(vars(machines.Machine)["plain"], staticmethod)
        self.assertEqual(["alphabet"], list(inspect.signature(machines.Machine.plain).parameters))
        for name in ("certain", "seen"):
            self.assertIsInstance(vars(readers.Reader)[name], property)

    def test_fields(self):
        machine = machines.Machine("ab", EXAMPLE)
        for made, fields in ((cuts.cut_of("ab", "ab"), "alphabet rows tail pieces many text starts"),
                             (machine, "alphabet rules standings reached"),
                             (readbacks.comes_back(machine), "holds heights table one two"),
                             (holds.hold(machine), "bits levels begin first first_ring second second_ring"),
                             (duels.duel(machine, "ab"), "length pieces standings machine_bits presser_bits floor told"
                                                         " lead"),
                             (rounds.Round("ab", "a", "b"), "alphabet head ring variety"),
                             (rates.least_rate(machine), "rate standing loop levels"),
                             (lots.lot_of("ab", ["a"]), "alphabet rows"),
                             (lotreadbacks.comes_back_on(machine, lots.lot_of("ab", ["a"])), "holds table one two"),
                             (lotrates.lot_rates(machine, lots.lot_of("ab", ["a"])),
                              "least greatest least_round greatest_round"),
                             (leads.greatest_lead(machine, machine), "lead text levels begin loop"),
                             (builds.Build("ab", "plain"), "alphabet text"),
                             (grown.Grown("ab", ["a"]), "alphabet rules lengths size"),
                             (workshops.Workshop("ab"), "alphabet")):
            for field in fields.split():
                self.assertIn(field, vars(made))
                self.assertTrue(are_tuples(getattr(made, field)))

    def test_what_is_returned(self):
        machine = machines.Machine("ab", EXAMPLE)
        endless = rounds.Round("ab", "a", "b")
        lot = lots.lot_of("ab", ["a", "b"])
        build = builds.Build("ab", "late(plain)")
        text = grown.grown_of("ab", "ab")
        workshop = workshops.Workshop("ab")
        for value, kind in ((widths.width(3), int), (widths.number_bits(1, 3), str), (blocks.press("ab", "a"), str),
                            (blocks.pressed_length(2, 3), int), (stretches.fill(3, [1]), int),
                            (machine.run("a"), tuple), (machine("a"), str), (machine.last_after("a"), int),
                            (machine == machine, bool), (machine == 0, bool), (machine >> machines.Machine.plain("01"),
                                                                               machines.Machine),
                            (sameness.same_writing(machine, machine), type(None)),
                            (sameness.least_machine(machine), machines.Machine),
                            (blockmachines.block_machine("a", 2), machines.Machine),
                            (averages.total_bits(machine, 2), int), (averages.lightest(machine, 2), tuple),
                            (averages.heaviest(machine, 2), tuple), (averages.weight_sum(machine, 2), tuple),
                            (pairs.are_twins(machine, "a", "b"), bool), (pairs.starting_pairs(machine), tuple),
                            (pairs.pair_moves(machine, [0, 0, "", ""]), tuple), (pairs.walk_room(machine), int),
                            (readbacks.is_readback_paper(machine, [], []), bool),
                            (holds.is_hold_paper(machine, 0, []), bool),
                            (holds.is_open_paper(machine, "", "", "", "", ""), bool),
                            (floors.shared_total(3, 2), int), (floors.floor_bits(3, 2), int),
                            (excesses.excess(2, 1, 3), int), (excesses.told_excess(2, 1, 3), int),
                            (duels.duel(machine, "ab"), duels.Duel), (instants.is_instant(machine), bool),
                            (rivals.best_one("ab", "a"), machines.Machine), (endless.letter_of(3), str),
                            (endless.beginning(3), str), (endless == endless, bool), (endless == 0, bool),
                            (rounds.word_count(endless, 3), int), (rounds.pieces_bound(endless, 3), int),
                            (roundruns.settle(machine, endless), tuple), (roundruns.bits_on(machine, endless, 3), int),
                            (roundruns.rate_on(machine, endless), tuple), (rates.least_rate(machine), rates.Rate),
                            (rates.greatest_rate(machine).rate, tuple),
                            (rates.is_rate_paper(machine, "least", [0, 1], []), bool),
                            (overtaking.overtaken_from(1, 1, 1), int), (racing.ahead_from(machine, endless), int),
                            (~lot, lots.Lot), (lot & lot, lots.Lot), (lot | lot, lots.Lot), (lot - lot, lots.Lot),
                            (lot == lot, bool), (lot == 0, bool), ("a" in lot, bool),
                            (lots.lot_containing("ab", "a"), lots.Lot), (lots.lot_counting("ab", "a", 0, 2), lots.Lot),
                            (lotcounts.lot_count(lot, 1), int), (lotcounts.rank_in(lot, "a"), int),
                            (lotcounts.text_at(lot, 1, 0), str), (lotcounts.lot_bits(machine, lot, 1), int),
                            (lotcounts.lot_lightest(machine, lot, 1), tuple),
                            (lotcounts.lot_heaviest(machine, lot, 2), type(None)),
                            (lotwriting.texts_writing(machine, lots.lot_of("01", ["1"])), lots.Lot),
                            (lotwriting.written_lot(machine, lot), lots.Lot),
                            (lotreadbacks.lot_room(machine, lot), int),
                            (lotreadbacks.comes_back_on(machine, lot), lotreadbacks.LotReadback),
                            (lotreadbacks.are_lot_twins(machine, lot, "a", "b"), bool),
                            (lotreadbacks.is_lot_paper(machine, lot, []), bool),
                            (lotrates.goes_through(endless, lot), bool),
                            (lotrates.lot_rates(machine, ~lot), lotrates.LotRates),
                            (lotrates.lot_rates(machine, ~lot).least, tuple),
                            (lotrates.lot_rates(machine, ~lot).least_round, rounds.Round),
                            (leads.greatest_lead(machine, machine), leads.Lead),
                            (leads.is_lead_paper(machine, machine, 0, []), bool),
                            (leads.is_lead_loop(machine, machine, "", "a"), bool),
                            (buildwords.words_of(build, "ab"), tuple),
                            (buildmachines.machine_of_build(build), machines.Machine), (grades.grade(build), int),
                            (simplifying.simplified(build), builds.Build),
                            (named.named_build("held", "ab"), builds.Build),
                            (named.named_words("held", "ab", "ab"), tuple),
                            (evidence.sameness_paper(machine, machine), tuple),
                            (evidence.is_sameness_paper(machine, machine, []), bool),
                            (evidence.least_paper(machine), tuple),
                            (evidence.is_least_paper(machine, [], []), bool), (evidence.best_joins([1, 2]), tuple),
                            (evidence.is_best_joins([1, 2], []), bool), (text, grown.Grown), (text + text, grown.Grown),
                            (text == text, bool), (text == 0, bool), (text.letter_of(1), str), (text.stretch(0, 1), str),
                            (grown.powered(text, 2), grown.Grown), (grown.beginning_of(endless, 2), grown.Grown),
                            (grownruns.grown_run(machine, text), tuple),
                            (grownruns.grown_bits(machine, text, 0, 1), str), (grownruns.grown_in(text, lot), bool),
                            (grownruns.grown_letters(text), tuple), (workshop.make("x", "plain"), type(None)),
                            (workshop.undo(), type(None)), (workshop.redo(), type(None)),
                            (workshop.machine_of("x"), machines.Machine), (workshop.is_sure("x"), bool),
                            (workshop.lead_between("x", "x"), int), (workshop.ranking("a"), tuple),
                            (workshop.alike("x"), tuple), ("x" in workshop, bool), (len(workshop), int),
                            (deeds.perform(workshop, [["drop", "x"]]), tuple)):
            self.assertIs(kind, type(value))
            self.assertTrue(are_tuples(value))


if __name__ == "__main__":
    unittest.main()
