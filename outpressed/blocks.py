"""The presser: the block of bits that tells a text."""

from outpressed.cuts import cut_of
from outpressed.widths import number_bits, width


def free_places(size, number):
    """How many places are free for the piece with this number."""
    return number * size - (number - 1)


def count_below(ascending, value):
    """How many of the ascending numbers are less than the value."""
    low = 0
    high = len(ascending)
    while low < high:
        middle = (low + high) // 2
        if ascending[middle] < value:
            low = middle + 1
        else:
            high = middle
    return low


def place_numbers(alphabet, rows):
    """The place numbers of pieces 1, 2, 3 and so on."""
    taken = []
    numbers = []
    for parent, letter in rows:
        place = parent * len(alphabet) + alphabet.index(letter)
        before = count_below(taken, place)
        taken.insert(before, place)
        numbers.append(place - before)
    return numbers


def press(alphabet, text):
    """The block of the text."""
    cut = cut_of(alphabet, text)
    size = len(alphabet)
    parts = []
    for piece, place in enumerate(place_numbers(alphabet, cut.rows), start=1):
        parts.append(number_bits(1 + place, free_places(size, piece) + 1))
    parts.append(number_bits(0, free_places(size, cut.many + 1) + 1))
    parts.append(number_bits(cut.tail, cut.many + 1))
    return "".join(parts)


def width_total(size, last):
    """The sum of the widths of free_places + 1 for the pieces 1 to last."""
    if size == 1:
        return last
    # The options are k * (size - 1) + 2. Counting, for each number of bits,
    # the pieces that need more of them answers for any number of pieces.
    step = size - 1
    total = 0
    bits = 0
    first = 1
    while first <= last:
        total += last - first + 1
        bits += 1
        first = ((1 << bits) + step - 2) // step
    return total


def pressed_length(size, count):
    """The number of bits of the block of a text with so many pieces."""
    return width_total(size, count + 1) + width(count + 1)
