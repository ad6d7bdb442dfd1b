"""Machines and lots on grown texts, read as they are told."""

from outpressed.alphabets import check_same_alphabet
from outpressed.averages import bit_costs
from outpressed.grown import check_stretch
from outpressed.lots import lot_nexts


class GrownCourse:
    """What is written for the texts of the rules of a grown text, and where they lead.

    steps has for each standing, letter by letter, the pair of the next standing
    and the number of bits; effects the pair (bits, last standing) for each pair
    of a rule and a standing that was asked for.
    """

    def __init__(self, steps, grown):
        self.steps = steps
        self.grown = grown
        self.places = {letter: place for place, letter in enumerate(grown.alphabet)}
        self.effects = {}

    def after(self, number, standing):
        """The number of bits for the text of this rule from the standing on, and the last standing."""
        waiting = [(number, standing)]
        while (number, standing) not in self.effects:
            missing = self.missing_for(waiting[-1])
            if missing is None:
                waiting.pop()
            else:
                waiting.append(missing)
        return self.effects[(number, standing)]

    def missing_for(self, asked):
        """Note the effect of a rule in a standing if it is certain; otherwise what has to be known before it."""
        number, standing = asked
        rule = self.grown.rules[number]
        if isinstance(rule, str):
            last, bits = self.steps[standing][self.places[rule]]
            self.effects[asked] = (bits, last)
            return None
        ahead = (rule[0], standing)
        if ahead not in self.effects:
            return ahead
        bits, middle = self.effects[ahead]
        behind = (rule[1], middle)
        if behind not in self.effects:
            return behind
        more, last = self.effects[behind]
        self.effects[asked] = (bits + more, last)
        return None

    def whole(self, start):
        """The number of bits for the whole text from the start on, and the last standing."""
        return self.after(len(self.grown.rules) - 1, start)


def grown_run(machine, grown, *, start=0):
    """The number of bits that a machine writes for the text, and its last standing."""
    check_same_alphabet(machine.alphabet, grown.alphabet)
    return GrownCourse(bit_costs(machine, 1), grown).whole(start)


def grown_bits(machine, grown, start, end):
    """The bits from the start up to, but not including, the end, of all that the machine writes for the text."""
    check_same_alphabet(machine.alphabet, grown.alphabet)
    course = GrownCourse(bit_costs(machine, 1), grown)
    check_stretch(start, end, course.whole(0)[0])
    first, words = words_between(machine, grown, course, start, end)
    return "".join(words)[start - first:end - first]


def words_between(machine, grown, course, start, end):
    """The words that have bits from the start up to the end, and the index of their first bit."""
    words = []
    first = start
    waiting = [(len(grown.rules) - 1, 0, 0)]
    while waiting:
        number, standing, begin = waiting.pop()
        bits, _ = course.after(number, standing)
        # A text without bits may be as long as can be, so it is passed by wherever it stands.
        if bits == 0 or begin >= end or begin + bits <= start:
            continue
        rule = grown.rules[number]
        if isinstance(rule, str):
            if len(words) == 0:
                first = begin
            words.append(machine.rules[standing][course.places[rule]][1])
        else:
            more, middle = course.after(rule[0], standing)
            waiting.append((rule[1], middle, begin + more))
            waiting.append((rule[0], standing, begin))
    return first, words


def grown_in(grown, lot):
    """Whether the text is in the lot."""
    check_same_alphabet(grown.alphabet, lot.alphabet)
    steps = [[(following, 0) for following in nexts] for nexts in lot_nexts(lot)]
    _, last = GrownCourse(steps, grown).whole(0)
    return lot.rows[last][0]


def grown_letters(grown):
    """How often each letter of the alphabet occurs, in order."""
    counts = []
    for rule in grown.rules:
        if isinstance(rule, str):
            counts.append([1 if letter == rule else 0 for letter in grown.alphabet])
        else:
            counts.append([one + two for one, two in zip(counts[rule[0]], counts[rule[1]])])
    return tuple(counts[-1])
