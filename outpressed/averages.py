"""What a machine writes for all texts of one length."""

from outpressed.paths import cheapest_text
from outpressed.ratios import lowest_terms


def total_bits(machine, length):
    """The sum of the numbers of bits for all texts with this length."""
    ways = {0: 1}
    total = 0
    for _ in range(length):
        later = {}
        # Each text is continued by each letter, and so are its bits.
        total = total * len(machine.alphabet)
        for standing, many in ways.items():
            for following, word in machine.rules[standing]:
                total = total + many * len(word)
                later[following] = later.get(following, 0) + many
        ways = later
    return total


def weight_sum(machine, length):
    """The sum of 1 / 2 ** n for all texts with this length, n being the number of bits."""
    longest = max([len(word) for row in machine.rules for _, word in row])
    # The weights are whole numbers, out of 2 ** longest for each letter read.
    weights = {0: 1}
    for _ in range(length):
        later = {}
        for standing, weight in weights.items():
            for following, word in machine.rules[standing]:
                later[following] = later.get(following, 0) + (weight << (longest - len(word)))
        weights = later
    return lowest_terms(sum(list(weights.values())), 1 << (longest * length))


def lightest(machine, length):
    """The least number of bits for a text with this length, and the first such text."""
    return cheapest_text(machine.alphabet, bit_costs(machine, 1), [True] * machine.standings, length)


def heaviest(machine, length):
    """The greatest number of bits for a text with this length, and the first such text."""
    cost, text = cheapest_text(machine.alphabet, bit_costs(machine, -1), [True] * machine.standings, length)
    return -cost, text


def bit_costs(machine, sign):
    """The steps of the machine, with the numbers of their bits, each one counted as sign."""
    return [[(following, sign * len(word)) for following, word in row] for row in machine.rules]
