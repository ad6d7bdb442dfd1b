"""The least and the greatest number of bits for a letter in the long run, with evidence."""

from outpressed.machines import nexts_of
from outpressed.ratios import lowest_terms
from outpressed.tables import reached_in


class Rate:
    """The least or the greatest rate of all loops, a loop with this rate, and levels that show it."""

    def __init__(self, rate, standing, loop, levels):
        self.rate = rate
        self.standing = standing
        self.loop = loop
        self.levels = levels


def least_rate(machine):
    """The Rate with the least rate of all loops."""
    top, bottom, standing, loop, levels = signed_rate(machine, 1)
    return Rate((top, bottom), standing, loop, levels)


def greatest_rate(machine):
    """The Rate with the greatest rate of all loops."""
    top, bottom, standing, loop, levels = signed_rate(machine, -1)
    return Rate((-top, bottom), standing, loop, tuple([-level for level in levels]))


def signed_rate(machine, sign):
    """The least rate, each bit counted as sign, as least_mean tells it, but with a level for each standing."""
    # In this order a step mostly leads to a later standing, so that few rounds settle the levels.
    order = reached_in(nexts_of(machine.rules))
    top, bottom, standing, loop, levels = least_mean(cost_steps(machine, order, sign))
    return top, bottom, standing, loop, tuple([levels.get(place, 0) for place in range(machine.standings)])


def cost_steps(machine, standings, sign):
    """The steps (next standing, letter, bits counted as sign) between these standings, by the standing."""
    inside = {standing: True for standing in standings}
    return {standing: [(following, letter, sign * len(word)) for letter, (following, word)
                       in zip(machine.alphabet, machine.rules[standing]) if following in inside]
            for standing in standings}


def least_mean(steps):
    """The least cost for a letter of all rings of steps, or None if there is no ring.

    It is told as top and bottom, a standing, a loop from it with this mean, and levels.
    """
    # A mean above all others first: below it there is any ring. Each ring that
    # is found has a lesser mean, until no ring is below the last one.
    top = 1 + max([cost for row in steps.values() for _, _, cost in row], default=0)
    bottom = 1
    found = None
    while True:
        levels, ring = levels_or_ring(steps, top, bottom)
        if ring is None:
            if found is None:
                return None
            standing, loop = found
            return top, bottom, standing, loop, levels
        cost, standing, loop = ring
        found = (standing, loop)
        top, bottom = lowest_terms(cost, len(loop))


def levels_or_ring(steps, top, bottom):
    """Levels that show that no ring has a rate below top / bottom, and None; or None and such a ring."""
    levels = {standing: 0 for standing in steps}
    waiting = {standing: True for standing in steps}
    origins = {}
    while lower_levels(steps, top, bottom, levels, waiting, origins):
        rings = origin_rings(origins)
        if len(rings) > 0:
            return None, least_ring([told_ring(origins, ring) for ring in rings])
    return levels, None


def lower_levels(steps, top, bottom, levels, waiting, origins):
    """Go once along the steps of all that wait, and lower the levels behind them; whether one was lowered."""
    lowered = False
    for standing, row in steps.items():
        if not waiting[standing]:
            continue
        waiting[standing] = False
        level = levels[standing] - top
        for following, letter, cost in row:
            if level + bottom * cost < levels[following]:
                levels[following] = level + bottom * cost
                waiting[following] = True
                origins[following] = (standing, letter, cost)
                lowered = True
    return lowered


def origin_rings(origins):
    """All rings in which each standing is followed by the one that it was lowered from."""
    begun = {}
    rings = []
    for begin in origins:
        path = []
        standing = begin
        while standing in origins and standing not in begun:
            begun[standing] = begin
            path.append(standing)
            standing = origins[standing][0]
        if begun.get(standing) == begin and len(path) > 0:
            rings.append(path[path.index(standing):])
    return rings


def told_ring(origins, ring):
    """The cost of the ring, its first standing and the loop from it."""
    cost = sum([origins[standing][2] for standing in ring])
    letters = [origins[standing][1] for standing in ring]
    return cost, ring[0], "".join(letters[::-1])


def least_ring(rings):
    """The first one with the least cost for a letter."""
    best = rings[0]
    for ring in rings[1:]:
        if ring[0] * len(best[2]) < best[0] * len(ring[2]):
            best = ring
    return best


def is_rate_paper(machine, side, rate, levels):
    """Whether levels show that no rate is less, or greater, than this one."""
    if len(levels) != machine.standings:
        return False
    top, bottom = rate
    sign = 1 if side == "least" else -1
    return all([sign * (bottom * len(word) - top) >= sign * (levels[following] - levels[standing])
                for standing in machine.reached for following, word in machine.rules[standing]])
