"""Lots: sets of texts that finitely many standings tell."""

from outpressed.alphabets import check_alphabet, check_same_alphabet, check_text
from outpressed.errors import BadRule
from outpressed.kinds import as_tuples, is_number_below
from outpressed.machines import check_row_lengths, nexts_of
from outpressed.tables import fewest_standings, side_by_side


class Lot:
    """A set of texts, told by the fewest standings: for each one whether it accepts, and the next ones."""

    def __init__(self, alphabet, rows):
        check_alphabet(alphabet)
        kept = as_tuples(rows)
        check_nexts(alphabet, [nexts for _, nexts in kept])
        order, table = fewest_standings([accepts for accepts, _ in kept], [nexts for _, nexts in kept])
        self.alphabet = alphabet
        self.rows = tuple([(kept[standing][0], tuple(nexts)) for standing, nexts in zip(order, table)])

    def __eq__(self, other):
        return isinstance(other, Lot) and self.alphabet == other.alphabet and self.rows == other.rows

    def __contains__(self, text):
        places = {letter: place for place, letter in enumerate(self.alphabet)}
        standing = 0
        for letter in text:
            if letter not in places:
                return False
            standing = self.rows[standing][1][places[letter]]
        return self.rows[standing][0]

    def __invert__(self):
        return Lot(self.alphabet, [(not accepts, nexts) for accepts, nexts in self.rows])

    def __and__(self, other):
        return joined(self, other, ((True, True),))

    def __or__(self, other):
        return joined(self, other, ((True, True), (True, False), (False, True)))

    def __sub__(self, other):
        return joined(self, other, ((True, False),))


def check_nexts(alphabet, table):
    """Raise BadStanding or BadRule for the first row or next standing that is not right."""
    check_row_lengths(alphabet, table)
    for standing, nexts in enumerate(table):
        for letter, following in zip(alphabet, nexts):
            if not is_number_below(following, len(table)):
                raise BadRule(standing, letter)


def joined(one, two, wanted):
    """The lot of the texts of which being in the one and in the other lot is wanted."""
    check_same_alphabet(one.alphabet, two.alphabet)
    places, table = side_by_side(lot_nexts(one), lot_nexts(two))
    return Lot(one.alphabet, [((one.rows[first][0], two.rows[second][0]) in wanted, nexts)
                              for (first, second), nexts in zip(places, table)])


def lot_nexts(lot):
    """The table of the next standings alone."""
    return [nexts for _, nexts in lot.rows]


def lot_places(machine, lot):
    """All pairs of a standing of the machine and one of the lot that some text leads to, and their table."""
    return side_by_side(nexts_of(machine.rules), lot_nexts(lot))


def lot_of(alphabet, texts):
    """The lot of these texts."""
    check_alphabet(alphabet)
    for text in texts:
        check_text(alphabet, text)
    # Standing 1 is behind all that is no beginning of one of the texts.
    nexts = [[1] * len(alphabet), [1] * len(alphabet)]
    ends = {}
    for text in texts:
        standing = 0
        for letter in text:
            place = alphabet.index(letter)
            if nexts[standing][place] == 1:
                nexts[standing][place] = len(nexts)
                nexts.append([1] * len(alphabet))
            standing = nexts[standing][place]
        ends[standing] = True
    return Lot(alphabet, [(standing in ends, row) for standing, row in enumerate(nexts)])


def lot_containing(alphabet, word):
    """The lot of all texts in which the word stands somewhere."""
    check_alphabet(alphabet)
    check_text(alphabet, word)
    # In standing k the text ends with the first k letters of the word, and not with
    # more of them. Any other letter than the next one leads where it leads from the
    # standing of what was read without the first letter of the word.
    table = []
    shorter = [0] * len(alphabet)
    for standing, letter in enumerate(word):
        place = alphabet.index(letter)
        nexts = list(shorter)
        nexts[place] = standing + 1
        table.append(nexts)
        shorter = table[shorter[place]]
    table.append([len(word)] * len(alphabet))
    return Lot(alphabet, [(standing == len(word), nexts) for standing, nexts in enumerate(table)])


def lot_counting(alphabet, letter, rest, modulus):
    """The lot of all texts in which the number of these letters, divided by the modulus, leaves the rest."""
    check_alphabet(alphabet)
    check_text(alphabet, letter)
    rows = []
    for standing in range(modulus):
        nexts = [(standing + 1) % modulus if other == letter else standing for other in alphabet]
        rows.append((standing == rest, nexts))
    return Lot(alphabet, rows)
