"""How many stretches fit into a length."""

from math import isqrt


def fill(length, counts):
    """The most stretches, at most counts[0] of length 1, counts[1] of length 2 and so on."""
    left = length
    total = 0
    # The shortest first: an exchange for a longer one never gives more.
    for size, count in enumerate(counts, start=1):
        taken = min(count, left // size)
        total += taken
        left -= taken * size
    return total


def fill_evenly(length, first, many):
    """The most stretches, at most so many of each length from the first one on, without end."""
    # One stretch of each of so many lengths has layers * (odd + layers) / 2
    # letters; solving this answers at once where counting layers would not.
    odd = 2 * first - 1
    layers = (isqrt(8 * (length // many) + odd * odd) - odd) // 2
    left = length - many * (layers * (odd + layers) // 2)
    return many * layers + left // (first + layers)
