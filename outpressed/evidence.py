"""Evidence that machines write the same, that one is the least, and that one standing can do no better."""

from outpressed.alphabets import check_same_alphabet, check_text
from outpressed.kinds import as_tuples
from outpressed.machines import nexts_of
from outpressed.sameness import least_machine, same_writing
from outpressed.tables import roads_in, side_by_side


def sameness_paper(one, two):
    """All pairs of last standings of two machines that write the same, or None if they do not."""
    if same_writing(one, two) is not None:
        return None
    pairs, _ = side_by_side(nexts_of(one.rules), nexts_of(two.rules))
    return tuple(sorted(pairs))


def is_sameness_paper(one, two, table):
    """Whether a table of pairs of standings shows that two machines write the same."""
    check_same_alphabet(one.alphabet, two.alphabet)
    pairs = {pair: True for pair in as_tuples(table)}
    if (0, 0) not in pairs:
        return False
    for first, second in pairs:
        for (ahead, word), (behind, other) in zip(one.rules[first], two.rules[second]):
            if word != other or (ahead, behind) not in pairs:
                return False
    return True


def least_paper(machine):
    """The least texts to all standings, and those that part each two of them; None if fewer standings do."""
    if least_machine(machine).standings < machine.standings:
        return None
    roads = roads_in(machine.alphabet, nexts_of(machine.rules))
    texts = parting_texts(machine)
    return (tuple([roads[standing] for standing in range(machine.standings)]),
            tuple([(first, second, texts[(first, second)]) for first, second in sorted(list(texts))]))


def parting_texts(machine):
    """For each two standings, the lesser one first, the least text for which they write different bits, if any."""
    pairs = [(first, second) for second in range(machine.standings) for first in range(second)]
    users = {}
    layer = {}
    for pair in pairs:
        steps = steps_of_pair(machine, pair)
        for letter, after, differ in steps:
            users.setdefault(after, []).append(pair)
            if differ and pair not in layer:
                layer[pair] = letter
    # Layer by layer the texts are one letter longer: a letter in front of a text
    # of the layer before. Up to their last letter, both standings write the same.
    texts = {}
    while len(layer) > 0:
        for pair, text in layer.items():
            texts[pair] = text
        later = [user for pair in layer for user in users.get(pair, []) if user not in texts]
        layer = {pair: longer_text(machine, pair, texts) for pair in later}
    return texts


def steps_of_pair(machine, pair):
    """For each letter the letter, the next two standings, the lesser one first, and whether the words differ."""
    first, second = pair
    return [(letter, (min(ahead, behind), max(ahead, behind)), word != other)
            for letter, (ahead, word), (behind, other)
            in zip(machine.alphabet, machine.rules[first], machine.rules[second])]


def longer_text(machine, pair, texts):
    """The first letter that leads the pair to one with a text, and this text."""
    return [letter + texts[after] for letter, after, _ in steps_of_pair(machine, pair) if after in texts][0]


def is_least_paper(machine, reach, parting):
    """Whether these texts show that no machine with fewer standings writes the same."""
    entries = as_tuples(parting)
    for text in reach:
        check_text(machine.alphabet, text)
    for _, _, text in entries:
        check_text(machine.alphabet, text)
    if [machine.last_after(text) for text in reach] != list(range(machine.standings)):
        return False
    told = {}
    for first, second, text in entries:
        if first >= second or machine.run(text, start=first)[0] == machine.run(text, start=second)[0]:
            return False
        told[(first, second)] = True
    return len(told) == machine.standings * (machine.standings - 1) // 2


def best_joins(counts):
    """The pairs of numbers that are taken away, if again and again the sum of the two least ones is put in."""
    numbers = sorted(list(counts))
    joins = []
    while len(numbers) > 1:
        joins.append((numbers[0], numbers[1]))
        numbers = sorted(numbers[2:] + [numbers[0] + numbers[1]])
    return tuple(joins)


def is_best_joins(counts, joins):
    """Whether these are the pairs that are taken away."""
    return as_tuples(joins) == best_joins(counts)
