"""Machines, which read letters and write bits."""

from outpressed.alphabets import check_alphabet, check_same_alphabet, check_text
from outpressed.errors import BadRule, BadStanding
from outpressed.kinds import as_tuples, is_bits, is_number_below
from outpressed.tables import reached_in
from outpressed.widths import index_words


class Machine:
    """A machine over an alphabet, with one rule for each standing and letter."""

    def __init__(self, alphabet, rules):
        check_alphabet(alphabet)
        kept = as_tuples(rules)
        check_rules(alphabet, kept)
        self.alphabet = alphabet
        self.rules = kept
        self.standings = len(kept)
        self.reached = tuple(sorted(reached_in(nexts_of(kept))))

    @staticmethod
    def plain(alphabet):
        """The machine that writes each letter as its index."""
        return Machine(alphabet, [[(0, word) for word in index_words(len(alphabet))]])

    def run(self, text, *, start=0):
        """The bits that are written for the text, and the last standing."""
        check_text(self.alphabet, text)
        return written_by(self.rules, self.alphabet, text, start)

    def last_after(self, text):
        """The last standing behind the text."""
        return self.run(text)[1]

    def __call__(self, text):
        return self.run(text)[0]

    def __eq__(self, other):
        return isinstance(other, Machine) and self.alphabet == other.alphabet and self.rules == other.rules

    def __rshift__(self, other):
        check_same_alphabet("01", other.alphabet)
        _, rules = pairs_in_a_row(self.rules, other.rules)
        return Machine(self.alphabet, rules)


def check_rules(alphabet, rules):
    """Raise BadStanding or BadRule for the first standing or rule that is not right."""
    check_row_lengths(alphabet, rules)
    for standing, row in enumerate(rules):
        for letter, (following, word) in zip(alphabet, row):
            if not is_number_below(following, len(rules)) or not is_bits(word):
                raise BadRule(standing, letter)


def check_row_lengths(alphabet, rows):
    """Raise BadStanding if there are no rows, or for the first one without one item for each letter."""
    if len(rows) == 0:
        raise BadStanding(0)
    for standing, row in enumerate(rows):
        if len(row) != len(alphabet):
            raise BadStanding(standing)


def nexts_of(rules):
    """The table of the next standings alone."""
    return [[rule[0] for rule in row] for row in rules]


def written_by(rules, alphabet, text, start):
    """The bits that these rules write for the text, and the last standing."""
    places = {letter: place for place, letter in enumerate(alphabet)}
    words = []
    standing = start
    for letter in text:
        standing, word = rules[standing][places[letter]]
        words.append(word)
    return "".join(words), standing


def pairs_in_a_row(first, second):
    """The standings of two machines of which the second reads what the first writes, and their rules."""
    pairs = [(0, 0)]
    numbers = {(0, 0): 0}
    rows = []
    while len(rows) < len(pairs):
        ahead, behind = pairs[len(rows)]
        row = []
        for following, word in first[ahead]:
            written, last = written_by(second, "01", word, behind)
            pair = (following, last)
            if pair not in numbers:
                numbers[pair] = len(pairs)
                pairs.append(pair)
            row.append((numbers[pair], written))
        rows.append(row)
    return pairs, rows
