"""The walk from all starting pairs, and the twins that it meets."""

from heapq import heappop, heappush

from outpressed.pairs import is_meeting, pair_moves, partings


class Walk:
    """All pairs that are reached, each one by the fewest letters together.

    roads has the least text to each reached standing, costs the number of
    letters of both texts to each pair, the least number first.
    """

    def __init__(self, machine):
        self.roads = least_roads(machine)
        self.costs = {}
        self.origins = {}
        self.explore(machine)

    def explore(self, machine):
        """Find all pairs, those with fewer letters first."""
        queue = []
        origins = []
        for standing, first, second, _, _, pair in partings(machine):
            if pair is not None:
                road = self.roads[standing]
                heappush(queue, (2 * len(road) + 2, len(origins), pair))
                origins.append((None, road, first, second))
        while queue:
            cost, number, pair = heappop(queue)
            if pair in self.costs:
                continue
            self.costs[pair] = cost
            self.origins[pair] = origins[number]
            for side, letter, after in pair_moves(machine, pair):
                if after not in self.costs:
                    heappush(queue, (cost + 1, len(origins), after))
                    origins.append((pair, "") + by_side(side, letter))

    def texts_to(self, pair):
        """The text before the parting, and those of both runs behind it."""
        begins = []
        firsts = []
        seconds = []
        while pair is not None:
            pair, begin, first, second = self.origins[pair]
            begins.append(begin)
            firsts.append(first)
            seconds.append(second)
        return "".join(begins[::-1]), "".join(firsts[::-1]), "".join(seconds[::-1])


def by_side(side, letter):
    """What the first and what the second run reads."""
    if side == 0:
        return letter, ""
    return "", letter


def least_roads(machine):
    """The least text that leads to each reached standing."""
    roads = {0: ""}
    order = [0]
    at = 0
    while at < len(order):
        standing = order[at]
        for letter, (following, _) in zip(machine.alphabet, machine.rules[standing]):
            if following not in roads:
                roads[following] = roads[standing] + letter
                order.append(following)
        at += 1
    return roads


def silent_steps(machine, standing):
    """The letters for which nothing is written, and the standings behind them."""
    return [(letter, following) for letter, (following, word) in zip(machine.alphabet, machine.rules[standing])
            if word == ""]


def shortest_ring(machine, standing):
    """A shortest silent text that leads from the standing to itself, or None."""
    order = [(standing, "")]
    found = {}
    at = 0
    while at < len(order):
        place, text = order[at]
        for letter, following in silent_steps(machine, place):
            if following == standing:
                return text + letter
            if following not in found:
                found[following] = True
                order.append((following, text + letter))
        at += 1
    return None


def silent_heights(machine):
    """For each standing the letters of its longest silent text, if there is no ring without bits."""
    heights = [0] * machine.standings
    for _ in machine.reached:
        for standing in machine.reached:
            heights[standing] = max([0] + [1 + heights[following]
                                           for _, following in silent_steps(machine, standing)])
    return tuple(heights)


def fewest_twins(machine, walk):
    """Twins with the fewest letters together, the lesser text first, or None."""
    found = []
    for standing in machine.reached:
        ring = shortest_ring(machine, standing)
        if ring is not None:
            road = walk.roads[standing]
            found.append((2 * len(road) + len(ring), road, road + ring))
    for pair in walk.costs:
        if is_meeting(pair):
            begin, first, second = walk.texts_to(pair)
            found.append((walk.costs[pair], begin + first, begin + second))
            break
    if len(found) == 0:
        return None
    _, one, two = min(found)
    if (len(two), two) < (len(one), one):
        return two, one
    return one, two
