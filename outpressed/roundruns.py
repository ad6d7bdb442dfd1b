"""Machines on endless texts that come round."""

from outpressed.alphabets import check_same_alphabet
from outpressed.ratios import lowest_terms


class Course:
    """A machine on an endless text, ring by ring, up to the first standing that was there before.

    standings has the last standing after the head and 0, 1, 2 and so on rings,
    totals the number of bits up to there; at the index before is the standing
    that is the last one again, period rings later.
    """

    def __init__(self, machine, endless):
        check_same_alphabet(machine.alphabet, endless.alphabet)
        bits, standing = count_run(machine, endless.head, 0)
        self.standings = [standing]
        self.totals = [bits]
        places = {}
        while standing not in places:
            places[standing] = len(places)
            more, standing = count_run(machine, endless.ring, standing)
            bits += more
            self.standings.append(standing)
            self.totals.append(bits)
        self.before = places[standing]
        self.period = len(places) - self.before
        self.period_bits = bits - self.totals[self.before]


def count_run(machine, text, start):
    """The number of bits that a machine writes for the text, and its last standing."""
    places = {letter: place for place, letter in enumerate(machine.alphabet)}
    bits = 0
    standing = start
    for letter in text:
        standing, word = machine.rules[standing][places[letter]]
        bits += len(word)
    return bits, standing


def settle(machine, endless):
    """After how many rings the last standings begin to come again, and after how many more they do."""
    course = Course(machine, endless)
    return course.before, course.period


def bits_on(machine, endless, length):
    """The number of bits that a machine writes for the first so many letters."""
    course = Course(machine, endless)
    if length < len(endless.head):
        return count_run(machine, endless.head[:length], 0)[0]
    rings, letters = divmod(length - len(endless.head), len(endless.ring))
    bits = 0
    if rings > course.before:
        periods, further = divmod(rings - course.before, course.period)
        bits = periods * course.period_bits
        rings = course.before + further
    more, _ = count_run(machine, endless.ring[:letters], course.standings[rings])
    return bits + course.totals[rings] + more


def rate_on(machine, endless):
    """The bits for a letter in the long run, as a fraction."""
    course = Course(machine, endless)
    return lowest_terms(course.period_bits, course.period * len(endless.ring))
