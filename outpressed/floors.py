"""The least number of bits that so many strings of bits have together."""


def shared_total(count, share):
    """The least number of bits of so many strings, none of them used more than share times."""
    return least_bits(count, share, share)


def floor_bits(standings, count):
    """The least number of bits of so many stretches that a machine with these standings reads."""
    return least_bits(count, standings * (standings - 1) // 2, standings * standings)


def least_bits(count, empty, share):
    """The least number of bits of so many strings, the empty one and each other one used so often."""
    left = count - min(count, empty)
    total = 0
    length = 1
    room = 2 * share
    while left > 0:
        taken = min(left, room)
        total += taken * length
        left -= taken
        length += 1
        room = 2 * room
    return total
