"""From where on the presser is ahead of every machine, on every endless text that comes round."""

from outpressed.blocks import free_places, pressed_length
from outpressed.widths import width


def overtaken_from(size, variety, standings):
    """The length from which on each machine writes more than the presser, by its standings and the variety alone."""
    # The lengths with the same greatest number of pieces follow one another from
    # begin on. From the length needed on, a machine writes more than a block
    # with so many pieces; before it, it perhaps does not.
    count = 0
    begin = 0
    answer = 0
    while True:
        needed = standings * (pressed_length(size, count) + 1)
        if begin < needed:
            answer = needed
        elif stays_ahead(size, variety, standings, count):
            return answer
        begin += next_length(variety, count)
        count += 1


def next_length(variety, count):
    """The length of the next stretch, behind so many as short as can be."""
    return count // variety + 1


def stays_ahead(size, variety, standings, count):
    """Whether one piece more never again takes more bits than one stretch more brings, from this count on."""
    # The next piece takes at most as many bits as its options need, and one for
    # the tail. If the stretch brings so many with one to spare, it does so up to
    # twice the count, where the options need one bit more and the stretch is
    # nearly twice as long: so it does so again there, and so on.
    options = free_places(size, count + 2) + 1
    return next_length(variety, count) >= standings * (width(options) + 2)
