"""How many bits more one machine writes than another one, with evidence."""

from outpressed.alphabets import check_same_alphabet
from outpressed.errors import TooLarge
from outpressed.kinds import as_tuples
from outpressed.machines import nexts_of
from outpressed.rates import least_mean
from outpressed.tables import roads_in, side_by_side

MOST_PAIRS = 400


class Lead:
    """The greatest lead of all texts with evidence for it, or a loop by which the lead grows for ever."""

    def __init__(self, lead, text, levels, begin, loop):
        self.lead = lead
        self.text = text
        self.levels = levels
        self.begin = begin
        self.loop = loop


def greatest_lead(one, two):
    """The Lead of the one machine over the other one."""
    check_same_alphabet(one.alphabet, two.alphabet)
    pairs, table = side_by_side(nexts_of(one.rules), nexts_of(two.rules))
    if len(pairs) > MOST_PAIRS:
        raise TooLarge(len(pairs))
    # Each step costs what the lead loses by it.
    steps = {number: [(following, letter, -more) for letter, following, more
                      in zip(one.alphabet, nexts, leads_by_letter(one, two, pairs[number]))]
             for number, nexts in enumerate(table)}
    top, _, standing, loop, _ = least_mean(steps)
    if top < 0:
        return Lead(None, None, (), roads_in(one.alphabet, table)[standing], loop)
    levels = further_leads(steps)
    entries = tuple(sorted([(pair, levels[number]) for number, pair in enumerate(pairs)]))
    return Lead(levels[0], text_with_lead(steps, levels), entries, None, None)


def leads_by_letter(one, two, pair):
    """For each letter how many bits more the one machine writes for it than the other one."""
    first, second = pair
    return [len(word) - len(other) for (_, word), (_, other) in zip(one.rules[first], two.rules[second])]


def further_leads(steps):
    """The greatest lead that can still be won from each standing, where no ring of steps wins any."""
    levels = {standing: 0 for standing in steps}
    raised = True
    while raised:
        raised = False
        for standing, row in steps.items():
            level = max([levels[following] - cost for following, _, cost in row])
            if level > levels[standing]:
                levels[standing] = level
                raised = True
    return levels


def text_with_lead(steps, levels):
    """A shortest text from standing 0 on that wins all the lead that can be won."""
    order = [(0, "")]
    found = {0: True}
    at = 0
    while levels[order[at][0]] > 0:
        standing, text = order[at]
        for following, letter, cost in steps[standing]:
            if following not in found and levels[following] - cost == levels[standing]:
                found[following] = True
                order.append((following, text + letter))
        at += 1
    return order[at][1]


def is_lead_paper(one, two, lead, levels):
    """Whether levels show that no text has a greater lead."""
    check_same_alphabet(one.alphabet, two.alphabet)
    told = {}
    for pair, number in as_tuples(levels):
        if pair in told:
            return False
        told[pair] = number
    if (0, 0) not in told or told[(0, 0)] > lead:
        return False
    return all([number >= 0 and is_enough(one, two, pair, told) for pair, number in told.items()])


def is_enough(one, two, pair, told):
    """Whether the level of the pair is not less than what can be won by any letter."""
    first, second = pair
    nexts = [(ahead, behind) for (ahead, _), (behind, _) in zip(one.rules[first], two.rules[second])]
    return all([after in told and told[pair] >= told[after] + more
                for after, more in zip(nexts, leads_by_letter(one, two, pair))])


def is_lead_loop(one, two, begin, loop):
    """Whether the loop, behind the beginning, comes round with more bits of the one machine."""
    check_same_alphabet(one.alphabet, two.alphabet)
    first = one.last_after(begin)
    second = two.last_after(begin)
    more, ahead = one.run(loop, start=first)
    less, behind = two.run(loop, start=second)
    return ahead == first and behind == second and len(more) > len(less)
