"""How many bits two texts can share that have parted, with evidence."""

from outpressed.alphabets import check_text
from outpressed.kinds import as_tuples
from outpressed.pairs import partings, readings, shared_length
from outpressed.readbacks import sure_walk
from outpressed.walks import by_side


class Hold:
    """The greatest number of shared bits, or two texts that share all bits for ever."""

    def __init__(self, bits, levels, begin, first, first_ring, second, second_ring):
        self.bits = bits
        self.levels = levels
        self.begin = begin
        self.first = first
        self.first_ring = first_ring
        self.second = second
        self.second_ring = second_ring


def hold(machine):
    """The Hold of a machine whose texts come back."""
    walk = sure_walk(machine)
    if len(machine.alphabet) == 1:
        return Hold(0, (), None, None, None, None, None)
    steps = {pair: shared_readings(machine, pair) for pair in walk.costs}
    levels = settled_levels(steps)
    if len(levels) < len(steps):
        return open_hold(walk, steps, levels)
    return closed_hold(machine, walk, steps, levels)


def shared_readings(machine, pair):
    """The readings of the pair as (side, letter, number of shared bits, next pair or None)."""
    return [(side, letter, shared_length(one, two), after)
            for side, letter, one, two, after in readings(machine, pair)]


def worth(shared, after, levels):
    """How many bits are shared by way of this pair, or of none."""
    if after is None:
        return shared
    return shared + levels[after]


def settled_levels(steps):
    """The levels of all pairs from which no moves go on for ever."""
    waiting = {}
    users = {}
    for pair, row in steps.items():
        followers = [after for _, _, _, after in row if after is not None]
        waiting[pair] = len(followers)
        for after in followers:
            users.setdefault(after, []).append(pair)
    ready = [pair for pair in steps if waiting[pair] == 0]
    levels = {}
    while ready:
        pair = ready.pop()
        levels[pair] = max([worth(shared, after, levels) for _, _, shared, after in steps[pair]])
        for user in users.get(pair, []):
            waiting[user] -= 1
            if waiting[user] == 0:
                ready.append(user)
    return levels


def closed_hold(machine, walk, steps, levels):
    """The Hold with the greatest number of shared bits."""
    found = partings(machine)
    shares = [worth(shared_length(one, two), pair, levels) for _, _, _, one, two, pair in found]
    bits = max(shares)
    standing, first, second, _, _, start = found[shares.index(bits)]
    further, behind = most_shared(steps, levels, start)
    entries = tuple([(pair, levels[pair]) for pair in sorted(list(levels))])
    return Hold(bits, entries, walk.roads[standing], first + further, None, second + behind, None)


def most_shared(steps, levels, pair):
    """What two runs read to share as many bits as the level of the pair says."""
    firsts = []
    seconds = []
    while pair is not None and levels[pair] > 0:
        side, letter, after = best_reading(steps[pair], levels, levels[pair])
        first, second = by_side(side, letter)
        firsts.append(first)
        seconds.append(second)
        pair = after
    return "".join(firsts), "".join(seconds)


def best_reading(row, levels, level):
    """The first reading by which as many bits are shared as the level says."""
    return [(side, letter, after) for side, letter, shared, after in row
            if worth(shared, after, levels) == level][0]


def open_hold(walk, steps, levels):
    """The Hold with two texts that share all their bits for ever."""
    pair, moves = endless_moves(steps, levels)
    begin, first, second = walk.texts_to(pair)
    first_ring = "".join([by_side(side, letter)[0] for side, letter in moves])
    second_ring = "".join([by_side(side, letter)[1] for side, letter in moves])
    return Hold(None, (), begin, first, first_ring, second, second_ring)


def endless_moves(steps, levels):
    """A pair without a level that comes round, and the moves from it to itself."""
    # Each pair without a level has a move to another one, so going on ends in a
    # ring. A ring of moves shares bits: otherwise there were a ring without bits.
    path = []
    places = {}
    pair = [reached for reached in steps if reached not in levels][0]
    while pair not in places:
        places[pair] = len(path)
        side, letter, after = loose_move(steps[pair], levels)
        path.append((side, letter))
        pair = after
    return pair, path[places[pair]:]


def loose_move(row, levels):
    """The first move to a pair without a level."""
    return [(side, letter, after) for side, letter, _, after in row
            if after is not None and after not in levels][0]


def is_hold_paper(machine, bits, levels):
    """Whether levels show that no two texts that part share more than so many bits."""
    told = {}
    for pair, number in as_tuples(levels):
        if pair in told:
            return False
        told[pair] = number
    if bits < 0:
        return False
    for _, _, _, one, two, pair in partings(machine):
        if not is_enough(bits, shared_length(one, two), pair, told):
            return False
    for pair, level in told.items():
        for _, _, shared, after in shared_readings(machine, pair):
            if not is_enough(level, shared, after, told):
                return False
    return True


def is_enough(number, shared, after, levels):
    """Whether the number is not less than what is shared, and what can be shared by way of the pair."""
    if after is None:
        return number >= shared
    return after in levels and number >= shared and number >= shared + levels[after]


def is_open_paper(machine, begin, first, first_ring, second, second_ring):
    """Whether these texts show two texts that share all their bits for ever."""
    for text in (begin, first, first_ring, second, second_ring):
        check_text(machine.alphabet, text)
    if first[:1] == second[:1] or first == "" or second == "":
        return False
    standing = machine.last_after(begin)
    one, ahead = machine.run(first, start=standing)
    two, behind = machine.run(second, start=standing)
    more, ahead_again = machine.run(first_ring, start=ahead)
    other_more, behind_again = machine.run(second_ring, start=behind)
    if ahead_again != ahead or behind_again != behind:
        return False
    if len(more) != len(other_more) or len(more) == 0:
        return False
    return goes_on(one, two, more, other_more) or goes_on(two, one, other_more, more)


def goes_on(longer, shorter, more, other_more):
    """Whether the longer bits have a lead over the shorter ones that stays the same."""
    if not longer.startswith(shorter):
        return False
    lead = longer[len(shorter):]
    return lead + more == other_more + lead
