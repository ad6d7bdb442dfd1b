"""Whether the texts of a machine come back on a lot, with evidence."""

from outpressed.alphabets import check_same_alphabet
from outpressed.kinds import as_tuples
from outpressed.lotplaces import places_machine
from outpressed.pairs import are_twins, readings, starting_pairs, walk_room
from outpressed.readbacks import checked_walk
from outpressed.walks import fewest_twins, silent_steps


class LotReadback:
    """Whether the texts of a machine come back on a lot: a paper for it, or twins in the lot."""

    def __init__(self, holds, table, one, two):
        self.holds = holds
        self.table = table
        self.one = one
        self.two = two


def lot_room(machine, lot):
    """A number of lot pairs that are never exceeded."""
    check_same_alphabet(machine.alphabet, lot.alphabet)
    _, joined = places_machine(machine, lot)
    return walk_room(joined)


def comes_back_on(machine, lot):
    """The LotReadback that tells whether the texts of the machine come back on the lot."""
    check_same_alphabet(machine.alphabet, lot.alphabet)
    places, joined = places_machine(machine, lot)
    walk = checked_walk(joined)
    twins = fewest_twins(joined, walk, end_groups(lot, places))
    if twins is not None:
        return LotReadback(False, (), twins[0], twins[1])
    return LotReadback(True, tuple(sorted([lot_pair(places, pair) for pair in walk.costs])), None, None)


def end_groups(lot, places):
    """For each lot place its standing of the machine if a text of the lot can end there, or None."""
    return [standing if lot.rows[place][0] else None for standing, place in places]


def lot_pair(places, pair):
    """A pair of numbers of lot places as a lot pair."""
    first, second, first_lead, second_lead = pair
    return places[first] + places[second] + (first_lead, second_lead)


def are_lot_twins(machine, lot, one, two):
    """Whether two texts are twins of the machine and both are in the lot."""
    check_same_alphabet(machine.alphabet, lot.alphabet)
    return are_twins(machine, one, two) and one in lot and two in lot


def is_lot_paper(machine, lot, table):
    """Whether a table of lot pairs shows that the texts of the machine come back on the lot."""
    check_same_alphabet(machine.alphabet, lot.alphabet)
    pairs = {pair: True for pair in as_tuples(table)}
    places, joined = places_machine(machine, lot)
    for pair in starting_pairs(joined):
        if lot_pair(places, pair) not in pairs:
            return False
    for pair in pairs:
        if is_lot_meeting(lot, pair):
            return False
        for after in lot_moves(machine, lot, pair):
            if after not in pairs:
                return False
    return not has_silent_return(joined, end_groups(lot, places))


def is_lot_meeting(lot, pair):
    """Whether both runs are in one standing of the machine, have written the same, and may end."""
    first, place, second, other, first_lead, second_lead = pair
    if first != second or first_lead != "" or second_lead != "":
        return False
    return lot.rows[place][0] and lot.rows[other][0]


def lot_moves(machine, lot, pair):
    """All lot pairs that follow the lot pair by a move."""
    first, place, second, other, first_lead, second_lead = pair
    behind = {letter: (lot.rows[place][1][at], lot.rows[other][1][at]) for at, letter in enumerate(lot.alphabet)}
    found = []
    for side, letter, _, _, after in readings(machine, (first, second, first_lead, second_lead)):
        if after is not None:
            further, later = (behind[letter][0], other) if side == 0 else (place, behind[letter][1])
            found.append((after[0], further, after[1], later, after[2], after[3]))
    return found


def has_silent_return(machine, groups):
    """Whether some silent text leads from a standing of a group to a standing of the same group."""
    # masks has for each standing a bit for each group from which a silent text leads to it.
    own = [0 if group is None else 1 << group for group in groups]
    masks = [0] * machine.standings
    work = list(range(machine.standings))
    while work:
        standing = work.pop()
        mask = masks[standing] | own[standing]
        for _, following in silent_steps(machine, standing):
            if masks[following] | mask != masks[following]:
                masks[following] = masks[following] | mask
                work.append(following)
    return any([mask & bit != 0 for mask, bit in zip(masks, own)])
