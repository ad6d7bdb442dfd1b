"""From where on the presser is ahead of one machine, on one endless text."""

from outpressed.alphabets import check_same_alphabet
from outpressed.blocks import pressed_length
from outpressed.cuts import cut_of
from outpressed.errors import TooLarge
from outpressed.overtaking import overtaken_from
from outpressed.readbacks import sure_walk
from outpressed.roundruns import count_run

MOST_LETTERS = 20000


def ahead_from(machine, endless):
    """The length from which on the block of the beginning has fewer bits than the machine writes for it."""
    check_same_alphabet(machine.alphabet, endless.alphabet)
    sure_walk(machine)
    end = overtaken_from(len(machine.alphabet), endless.variety, len(machine.reached))
    if end > MOST_LETTERS:
        raise TooLarge(end)
    return last_behind(machine, endless.beginning(end)) + 1


def last_behind(machine, text):
    """The greatest length of a beginning of the text for which the block does not have fewer bits."""
    blocks = block_lengths(machine.alphabet, text)
    bits = 0
    standing = 0
    last = 0
    for index, letter in enumerate(text):
        more, standing = count_run(machine, letter, standing)
        bits += more
        if blocks[index + 1] >= bits:
            last = index + 1
    return last


def block_lengths(alphabet, text):
    """For each beginning of the text, the empty one first, the number of bits of its block."""
    starts = cut_of(alphabet, text).starts
    lengths = []
    for count, start in enumerate(starts):
        end = starts[count + 1] if count + 1 < len(starts) else len(text) + 1
        lengths.extend([pressed_length(len(alphabet), count)] * (end - start))
    return lengths
