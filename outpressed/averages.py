"""What a machine writes for all texts of one length."""

from outpressed.ratios import lowest_terms


def total_bits(machine, length):
    """The sum of the numbers of bits for all texts with this length."""
    ways = {0: 1}
    total = 0
    for _ in range(length):
        later = {}
        # Each text is continued by each letter, and so are its bits.
        total = total * len(machine.alphabet)
        for standing, many in ways.items():
            for following, word in machine.rules[standing]:
                total = total + many * len(word)
                later[following] = later.get(following, 0) + many
        ways = later
    return total


def weight_sum(machine, length):
    """The sum of 1 / 2 ** n for all texts with this length, n being the number of bits."""
    longest = max([len(word) for row in machine.rules for _, word in row])
    # The weights are whole numbers, out of 2 ** longest for each letter read.
    weights = {0: 1}
    for _ in range(length):
        later = {}
        for standing, weight in weights.items():
            for following, word in machine.rules[standing]:
                later[following] = later.get(following, 0) + (weight << (longest - len(word)))
        weights = later
    return lowest_terms(sum(list(weights.values())), 1 << (longest * length))


def lightest(machine, length):
    """The least number of bits for a text with this length, and the first such text."""
    return extreme(machine, length, 1)


def heaviest(machine, length):
    """The greatest number of bits for a text with this length, and the first such text."""
    bits, text = extreme(machine, length, -1)
    return -bits, text


def extreme(machine, length, sign):
    """The least number of bits, each one counted as sign, and the first text with it."""
    tables = [[0] * machine.standings]
    for left in range(length):
        later = tables[left]
        tables.append([min([sign * len(word) + later[following] for following, word in row])
                       for row in machine.rules])
    letters = []
    standing = 0
    for left in range(length, 0, -1):
        letter, standing = first_best(machine, standing, sign, tables[left][standing], tables[left - 1])
        letters.append(letter)
    return tables[length][0], "".join(letters)


def first_best(machine, standing, sign, best, later):
    """The first letter with which the best number is met, and the next standing."""
    return [(letter, following) for letter, (following, word) in zip(machine.alphabet, machine.rules[standing])
            if sign * len(word) + later[following] == best][0]
