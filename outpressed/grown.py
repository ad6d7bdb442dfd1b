"""Grown texts, which are told by rules and may be very long."""

from outpressed.alphabets import check_alphabet, check_same_alphabet, check_text, is_letter
from outpressed.errors import BadGrowth, BadIndex, EmptyText
from outpressed.kinds import as_tuples, is_number_below


class Grown:
    """A text that is told by rules: each one is a letter or joins the texts of two earlier ones."""

    def __init__(self, alphabet, rules):
        check_alphabet(alphabet)
        kept = as_tuples(rules)
        check_growth(alphabet, kept)
        self.alphabet = alphabet
        self.rules = kept
        self.lengths = lengths_of(kept)
        self.size = self.lengths[-1]

    def letter_of(self, index):
        """The letter at the index."""
        if index < 0 or index >= self.size:
            raise BadIndex(index)
        rule = self.rules[-1]
        before = 0
        while not isinstance(rule, str):
            first, second = rule
            if index < before + self.lengths[first]:
                rule = self.rules[first]
            else:
                before += self.lengths[first]
                rule = self.rules[second]
        return rule

    def stretch(self, start, end):
        """The letters from the start up to, but not including, the end."""
        check_stretch(start, end, self.size)
        letters = []
        waiting = [(len(self.rules) - 1, 0)]
        while waiting:
            number, begin = waiting.pop()
            rule = self.rules[number]
            if begin >= end or begin + self.lengths[number] <= start:
                continue
            if isinstance(rule, str):
                letters.append(rule)
            else:
                waiting.append((rule[1], begin + self.lengths[rule[0]]))
                waiting.append((rule[0], begin))
        return "".join(letters)

    def __add__(self, other):
        check_same_alphabet(self.alphabet, other.alphabet)
        return Grown(self.alphabet, joined_rules(self.rules, other.rules))

    def __eq__(self, other):
        return isinstance(other, Grown) and self.alphabet == other.alphabet and self.rules == other.rules


def check_growth(alphabet, rules):
    """Raise BadGrowth for the first rule that is neither a letter nor a pair of earlier rules, or if there is none."""
    if len(rules) == 0:
        raise BadGrowth(0)
    for index, rule in enumerate(rules):
        if isinstance(rule, str):
            is_good = is_letter(alphabet, rule)
        else:
            is_good = all([is_number_below(number, index) for number in rule])
        if not is_good:
            raise BadGrowth(index)


def check_stretch(start, end, size):
    """Raise BadIndex if the start is not within the size, or the end not from the start on."""
    if start < 0 or start > size:
        raise BadIndex(start)
    if end < start or end > size:
        raise BadIndex(end)


def lengths_of(rules):
    """The numbers of letters of the texts of all rules."""
    lengths = []
    for rule in rules:
        if isinstance(rule, str):
            lengths.append(1)
        else:
            lengths.append(lengths[rule[0]] + lengths[rule[1]])
    return tuple(lengths)


def joined_rules(one, two):
    """The rules of two texts, equal ones but once, and the rule that joins the texts."""
    rules = []
    numbers = {}
    lasts = []
    for told in (one, two):
        places = []
        for rule in told:
            moved = rule if isinstance(rule, str) else (places[rule[0]], places[rule[1]])
            if moved not in numbers:
                numbers[moved] = len(rules)
                rules.append(moved)
            places.append(numbers[moved])
        lasts.append(places[-1])
    rules.append((lasts[0], lasts[1]))
    return rules


def grown_of(alphabet, text):
    """A grown text with this text."""
    check_alphabet(alphabet)
    check_text(alphabet, text)
    if text == "":
        raise EmptyText()
    rules = sorted(set(text))
    numbers = {letter: number for number, letter in enumerate(rules)}
    layer = [numbers[letter] for letter in text]
    # Neighbours are joined layer by layer, so that no rule stands on many others.
    while len(layer) > 1:
        joined = []
        for pair in zip(layer[::2], layer[1::2]):
            if pair not in numbers:
                numbers[pair] = len(rules)
                rules.append(pair)
            joined.append(numbers[pair])
        layer = joined + layer[2 * len(joined):]
    return Grown(alphabet, rules)


def powered(grown, times):
    """A grown text with the text so many times in a row."""
    rules = list(grown.rules)
    doubled = len(rules) - 1
    total = None
    left = times
    while left > 0:
        if left % 2 == 1:
            if total is not None:
                rules.append((total, doubled))
            total = doubled if total is None else len(rules) - 1
        left = left // 2
        if left > 0:
            rules.append((doubled, doubled))
            doubled = len(rules) - 1
    return Grown(grown.alphabet, rules)


def beginning_of(endless, length):
    """A grown text with the first so many letters of an endless text."""
    if length <= len(endless.head):
        return grown_of(endless.alphabet, endless.head[:length])
    rings, letters = divmod(length - len(endless.head), len(endless.ring))
    parts = []
    if endless.head != "":
        parts.append(grown_of(endless.alphabet, endless.head))
    if rings > 0:
        parts.append(powered(grown_of(endless.alphabet, endless.ring), rings))
    if letters > 0:
        parts.append(grown_of(endless.alphabet, endless.ring[:letters]))
    whole = parts[0]
    for part in parts[1:]:
        whole = whole + part
    return whole
