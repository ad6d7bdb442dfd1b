"""Lots through machines: the texts that write into a lot, and what is written for a lot."""

from outpressed.alphabets import check_same_alphabet
from outpressed.errors import TooLarge
from outpressed.lots import Lot
from outpressed.machines import pairs_in_a_row
from outpressed.writings import Writing

MOST_SETS = 1000


def texts_writing(machine, bit_lot):
    """The lot of all texts for which the machine writes a string of the lot."""
    check_same_alphabet("01", bit_lot.alphabet)
    # The lot reads the bits as a machine would that writes nothing itself.
    silent = [[(following, "") for following in nexts] for _, nexts in bit_lot.rows]
    pairs, rules = pairs_in_a_row(machine.rules, silent)
    return Lot(machine.alphabet, [(bit_lot.rows[place][0], [following for following, _ in row])
                                  for (_, place), row in zip(pairs, rules)])


def written_lot(machine, lot):
    """The lot of all strings of bits that the machine writes for texts of the lot."""
    check_same_alphabet(machine.alphabet, lot.alphabet)
    writing = Writing(machine, lot)
    sets = [writing.begun()]
    numbers = {sets[0]: 0}
    rows = []
    while len(rows) < len(sets):
        current = sets[len(rows)]
        nexts = []
        for bit in "01":
            later = writing.after(current, bit)
            if later not in numbers:
                if len(sets) == MOST_SETS:
                    raise TooLarge(MOST_SETS)
                numbers[later] = len(sets)
                sets.append(later)
            nexts.append(numbers[later])
        rows.append((writing.accepts(current), nexts))
    return Lot("01", rows)
