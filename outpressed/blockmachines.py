"""The presser, begun anew after so many letters, as a machine."""

from outpressed.alphabets import check_alphabet
from outpressed.blocks import press
from outpressed.errors import TooLarge
from outpressed.machines import Machine

MOST_STANDINGS = 60


def texts_below(size, length):
    """How many texts have fewer than so many letters."""
    total = 0
    for _ in range(length):
        total = total * size + 1
    return total


def short_texts(alphabet, length):
    """All texts with fewer than so many letters, in the order of texts."""
    texts = []
    layer = [""]
    for _ in range(length):
        texts.extend(layer)
        layer = [text + letter for text in layer for letter in alphabet]
    return texts


def block_machine(alphabet, length):
    """The machine that writes the block of every so many letters."""
    check_alphabet(alphabet)
    standings = texts_below(len(alphabet), length)
    if standings > MOST_STANDINGS:
        raise TooLarge(standings)
    texts = short_texts(alphabet, length)
    numbers = {text: number for number, text in enumerate(texts)}
    rules = []
    for text in texts:
        row = []
        for letter in alphabet:
            longer = text + letter
            if longer in numbers:
                row.append((numbers[longer], ""))
            else:
                row.append((0, press(alphabet, longer)))
        rules.append(row)
    return Machine(alphabet, rules)
