"""What the tests ask of the document's definitions, told as slowly and plainly as they stand there."""

import random
from itertools import product

from outpressed.machines import Machine


def texts_of(alphabet, length):
    """All texts with this length, in alphabetical order."""
    return ["".join(letters) for letters in product(alphabet, repeat=length)]


def texts_up_to(alphabet, length):
    """All texts with at most this length, in the order of texts."""
    return [text for k in range(length + 1) for text in texts_of(alphabet, k)]


def in_order(texts):
    """The texts in the order of texts."""
    return sorted(texts, key=lambda text: (len(text), text))


def cut_slowly(text):
    """The pieces, piece 0 included, and the tail of a text, by point 7."""
    pieces = [""]
    rest = text
    while True:
        beginnings = [rest[:k] for k in range(len(rest) + 1) if rest[:k] not in pieces]
        if not beginnings:
            return pieces, rest
        pieces.append(beginnings[0])
        rest = rest[len(beginnings[0]):]


def run_slowly(machine, text, start=0):
    """The bits and the last standing, by point 15."""
    bits, standing = "", start
    for letter in text:
        standing, word = machine.rules[standing][machine.alphabet.index(letter)]
        bits += word
    return bits, standing


def random_rules(source, size, standings, longest):
    """Rules with words of at most so many bits."""
    return [[(source.randrange(standings),
              "".join(source.choice("01") for _ in range(source.randint(0, longest))))
             for _ in range(size)] for _ in range(standings)]


def random_machines(seed, many, *, alphabets=("a", "ab", "abc"), standings=3, longest=2):
    """Machines of all sorts, the same ones at each run."""
    source = random.Random(seed)
    machines = []
    for _ in range(many):
        alphabet = source.choice(alphabets)
        machines.append(Machine(alphabet, random_rules(source, len(alphabet),
                                                       source.randint(1, standings), longest)))
    return machines


def are_tuples(value):
    """Whether there is no list at any level."""
    if isinstance(value, tuple):
        return all(are_tuples(item) for item in value)
    return not isinstance(value, (list, dict, set))
