"""The texts of one length in a lot, and what a machine writes for them."""

from outpressed.alphabets import check_same_alphabet, check_text
from outpressed.averages import bit_costs
from outpressed.errors import BadRank, NotInLot
from outpressed.lots import lot_places
from outpressed.paths import cheapest_text


def counts_left(lot, length):
    """For 0, 1, 2 and so on letters, how many texts lead from each standing to one that accepts."""
    counts = [[1 if accepts else 0 for accepts, _ in lot.rows]]
    for left in range(length):
        later = counts[left]
        counts.append([sum([later[following] for following in nexts]) for _, nexts in lot.rows])
    return counts


def lot_count(lot, length):
    """How many texts of the lot have this length."""
    return counts_left(lot, length)[length][0]


def rank_in(lot, text):
    """How many texts of the lot with as many letters come before the text."""
    check_text(lot.alphabet, text)
    if text not in lot:
        raise NotInLot(text)
    counts = counts_left(lot, len(text))
    rank = 0
    standing = 0
    for index, letter in enumerate(text):
        later = counts[len(text) - index - 1]
        place = lot.alphabet.index(letter)
        nexts = lot.rows[standing][1]
        rank += sum([later[following] for following in nexts[:place]])
        standing = nexts[place]
    return rank


def text_at(lot, length, rank):
    """The text of the lot with this length and this rank."""
    counts = counts_left(lot, length)
    if rank < 0 or rank >= counts[length][0]:
        raise BadRank(rank)
    letters = []
    standing = 0
    ahead = rank
    for left in range(length - 1, -1, -1):
        place = 0
        nexts = lot.rows[standing][1]
        while ahead >= counts[left][nexts[place]]:
            ahead -= counts[left][nexts[place]]
            place += 1
        letters.append(lot.alphabet[place])
        standing = nexts[place]
    return "".join(letters)


def lot_bits(machine, lot, length):
    """The sum of the numbers of bits for all texts of the lot with this length."""
    check_same_alphabet(machine.alphabet, lot.alphabet)
    counts = counts_left(lot, length)
    ways = {(0, 0): 1}
    total = 0
    for left in range(length - 1, -1, -1):
        later = {}
        for (standing, place), many in ways.items():
            for (following, word), behind in zip(machine.rules[standing], lot.rows[place][1]):
                total += many * len(word) * counts[left][behind]
                later[(following, behind)] = later.get((following, behind), 0) + many
        ways = later
    return total


def lot_lightest(machine, lot, length):
    """The least number of bits for a text of the lot with this length, and the first such text, or None."""
    return cheapest_in_lot(machine, lot, length, 1)


def lot_heaviest(machine, lot, length):
    """The greatest number of bits for a text of the lot with this length, and the first such text, or None."""
    found = cheapest_in_lot(machine, lot, length, -1)
    if found is None:
        return None
    cost, text = found
    return -cost, text


def cheapest_in_lot(machine, lot, length, sign):
    """The least number of bits, each one counted as sign, and the first text of the lot with it, or None."""
    check_same_alphabet(machine.alphabet, lot.alphabet)
    places, table = lot_places(machine, lot)
    costs = bit_costs(machine, sign)
    steps = [[(following, cost) for following, (_, cost) in zip(nexts, costs[standing])]
             for (standing, _), nexts in zip(places, table)]
    return cheapest_text(lot.alphabet, steps, [lot.rows[place][0] for _, place in places], length)
