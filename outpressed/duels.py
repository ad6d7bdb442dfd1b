"""A machine against the presser on one text."""

from outpressed.alphabets import check_text
from outpressed.blocks import pressed_length
from outpressed.cuts import cut_of
from outpressed.excesses import told_excess
from outpressed.floors import floor_bits
from outpressed.readbacks import sure_walk


class Duel:
    """What the machine and the presser write for the text, and what is told of it before."""

    def __init__(self, length, pieces, standings, machine_bits, presser_bits, floor, told):
        self.length = length
        self.pieces = pieces
        self.standings = standings
        self.machine_bits = machine_bits
        self.presser_bits = presser_bits
        self.floor = floor
        self.told = told
        self.lead = presser_bits - machine_bits


def duel(machine, text):
    """The Duel of a machine whose texts come back on the text."""
    check_text(machine.alphabet, text)
    sure_walk(machine)
    size = len(machine.alphabet)
    pieces = cut_of(machine.alphabet, text).many
    standings = len(machine.reached)
    return Duel(len(text), pieces, standings, len(machine(text)), pressed_length(size, pieces),
                floor_bits(standings, pieces), told_excess(size, standings, pieces))
