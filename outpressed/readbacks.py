"""Whether the texts of a machine come back, with evidence."""

from outpressed.errors import DoesNotComeBack, TooLarge
from outpressed.kinds import as_tuples
from outpressed.pairs import is_meeting, pair_moves, starting_pairs, walk_room
from outpressed.walks import Walk, fewest_twins, silent_heights, silent_steps

MOST_ROOM = 20000


class Readback:
    """Whether the texts of a machine come back: a paper for it, or twins."""

    def __init__(self, holds, heights, table, one, two):
        self.holds = holds
        self.heights = heights
        self.table = table
        self.one = one
        self.two = two


def checked_walk(machine):
    """The Walk of the machine; TooLarge if it has too much room."""
    room = walk_room(machine)
    if room > MOST_ROOM:
        raise TooLarge(room)
    return Walk(machine)


def twins_of(machine, walk):
    """Twins with the fewest letters together, the lesser text first, or None."""
    return fewest_twins(machine, walk, list(range(machine.standings)))


def sure_walk(machine):
    """The Walk of a machine whose texts come back; DoesNotComeBack otherwise."""
    walk = checked_walk(machine)
    twins = twins_of(machine, walk)
    if twins is not None:
        raise DoesNotComeBack(twins[0], twins[1])
    return walk


def comes_back(machine):
    """The Readback that tells whether the texts of the machine come back."""
    walk = checked_walk(machine)
    twins = twins_of(machine, walk)
    if twins is not None:
        return Readback(False, (), (), twins[0], twins[1])
    return Readback(True, silent_heights(machine), tuple(sorted(list(walk.costs))), None, None)


def is_readback_paper(machine, heights, table):
    """Whether heights and a table of pairs show that the texts of the machine come back."""
    pairs = {pair: True for pair in as_tuples(table)}
    return are_heights(machine, heights) and is_closed(machine, pairs)


def are_heights(machine, heights):
    """Whether there is one height for each standing, and each silent step leads down."""
    if len(heights) != machine.standings:
        return False
    return all([heights[following] < heights[standing] for standing in machine.reached
                for _, following in silent_steps(machine, standing)])


def is_closed(machine, pairs):
    """Whether all starting pairs and all next pairs are there, and no meeting."""
    for pair in starting_pairs(machine):
        if pair not in pairs:
            return False
    for pair in pairs:
        if is_meeting(pair):
            return False
        for _, _, after in pair_moves(machine, pair):
            if after not in pairs:
                return False
    return True
