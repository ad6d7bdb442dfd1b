"""The walk from all starting pairs, and the twins that it meets."""

from heapq import heappop, heappush

from outpressed.machines import nexts_of
from outpressed.pairs import pair_moves, partings
from outpressed.tables import roads_in


class Walk:
    """All pairs that are reached, each one by the fewest letters together.

    roads has the least text to each reached standing, costs the number of
    letters of both texts to each pair, the least number first.
    """

    def __init__(self, machine):
        self.roads = roads_in(machine.alphabet, nexts_of(machine.rules))
        self.costs = {}
        self.origins = {}
        self.explore(machine)

    def explore(self, machine):
        """Find all pairs, those with fewer letters first."""
        queue = []
        origins = []
        for standing, first, second, _, _, pair in partings(machine):
            if pair is not None:
                road = self.roads[standing]
                heappush(queue, (2 * len(road) + 2, len(origins), pair))
                origins.append((None, road, first, second))
        while queue:
            cost, number, pair = heappop(queue)
            if pair in self.costs:
                continue
            self.costs[pair] = cost
            self.origins[pair] = origins[number]
            for side, letter, after in pair_moves(machine, pair):
                if after not in self.costs:
                    heappush(queue, (cost + 1, len(origins), after))
                    origins.append((pair, "") + by_side(side, letter))

    def texts_to(self, pair):
        """The text before the parting, and those of both runs behind it."""
        begins = []
        firsts = []
        seconds = []
        while pair is not None:
            pair, begin, first, second = self.origins[pair]
            begins.append(begin)
            firsts.append(first)
            seconds.append(second)
        return "".join(begins[::-1]), "".join(firsts[::-1]), "".join(seconds[::-1])


def by_side(side, letter):
    """What the first and what the second run reads."""
    if side == 0:
        return letter, ""
    return "", letter


def silent_steps(machine, standing):
    """The letters for which nothing is written, and the standings behind them."""
    return [(letter, following) for letter, (following, word) in zip(machine.alphabet, machine.rules[standing])
            if word == ""]


def shortest_return(machine, standing, groups):
    """A shortest silent text that leads from the standing to one of its group, or None."""
    order = [(standing, "")]
    found = {}
    at = 0
    while at < len(order):
        place, text = order[at]
        for letter, following in silent_steps(machine, place):
            if is_one_group(groups, standing, following):
                return text + letter
            if following not in found:
                found[following] = True
                order.append((following, text + letter))
        at += 1
    return None


def is_one_group(groups, one, two):
    """Whether two standings are in the same group; one without a group is in none."""
    return groups[one] is not None and groups[one] == groups[two]


def silent_heights(machine):
    """For each standing the letters of its longest silent text, if there is no ring without bits."""
    heights = [0] * machine.standings
    for _ in machine.reached:
        for standing in machine.reached:
            heights[standing] = max([0] + [1 + heights[following]
                                           for _, following in silent_steps(machine, standing)])
    return tuple(heights)


def fewest_twins(machine, walk, groups):
    """Two texts with the same bits that lead to one group, with the fewest letters together, or None.

    The lesser text comes first. groups has a number for each standing, or None.
    """
    found = []
    for standing in machine.reached:
        further = shortest_return(machine, standing, groups)
        if further is not None:
            road = walk.roads[standing]
            found.append((2 * len(road) + len(further), road, road + further))
    for pair in walk.costs:
        first, second, first_lead, second_lead = pair
        if first_lead == "" and second_lead == "" and is_one_group(groups, first, second):
            begin, one, two = walk.texts_to(pair)
            found.append((walk.costs[pair], begin + one, begin + two))
            break
    if len(found) == 0:
        return None
    _, one, two = min(found)
    if (len(two), two) < (len(one), one):
        return two, one
    return one, two
