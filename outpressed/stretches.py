"""How many stretches fit into a length."""


def fill(length, counts):
    """The most stretches, at most counts[0] of length 1, counts[1] of length 2 and so on."""
    left = length
    total = 0
    # The shortest first: an exchange for a longer one never gives more.
    for size, count in enumerate(counts, start=1):
        taken = min(count, left // size)
        total += taken
        left -= taken * size
    return total
