"""Cheapest texts of one length, through tables of steps (next standing, cost), one for each letter."""


def cheapest_text(alphabet, steps, ends, length):
    """The least cost of a text with this length from standing 0 to an end, and the first such text, or None."""
    costs = costs_left(steps, ends, length)
    if costs[length][0] is None:
        return None
    letters = []
    standing = 0
    for left in range(length, 0, -1):
        letter, standing = first_step(alphabet, steps[standing], costs[left - 1], costs[left][standing])
        letters.append(letter)
    return costs[length][0], "".join(letters)


def costs_left(steps, ends, length):
    """For 0, 1, 2 and so on letters, the least cost from each standing to an end, or None."""
    costs = [[0 if is_end else None for is_end in ends]]
    for left in range(length):
        later = costs[left]
        costs.append([min([cost + later[following] for following, cost in row if later[following] is not None],
                          default=None) for row in steps])
    return costs


def first_step(alphabet, row, later, best):
    """The first letter with which the best cost is met, and the next standing."""
    return [(letter, following) for letter, (following, cost) in zip(alphabet, row)
            if later[following] is not None and cost + later[following] == best][0]
