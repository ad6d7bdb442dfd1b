"""How many bits more than the floor the presser writes."""

from outpressed.blocks import pressed_length
from outpressed.floors import floor_bits
from outpressed.widths import width


def excess(size, standings, count):
    """The bits of a block with so many pieces less the floor of a machine with these standings."""
    return pressed_length(size, count) - floor_bits(standings, count)


def told_excess(size, standings, count):
    """A number that is never less than the excess of the same arguments."""
    letter_bits = width(size)
    return count * (letter_bits + 1 + 2 * width(standings)) + letter_bits + 2 + 2 * log(count + 1)


def log(number):
    """The greatest whole number g for which 2 ** g is at most the number."""
    return number.bit_length() - 1
