"""Pairs of runs that have parted: where they are, and which one has written more."""


def are_twins(machine, one, two):
    """Whether two texts are different, but have the same bits and the same last standing."""
    # Both texts are read in any case, so that each letter is looked at.
    first_end = machine.run(one)
    second_end = machine.run(two)
    return one != two and first_end == second_end


def shared_length(one, two):
    """The length of the longest common beginning of two strings."""
    low = 0
    high = min(len(one), len(two))
    while low < high:
        middle = (low + high + 1) // 2
        if one[:middle] == two[:middle]:
            low = middle
        else:
            high = middle - 1
    return low


def pair_after(first, second, one, two):
    """The pair of two runs in these standings that wrote these bits, or None if they differ."""
    if one.startswith(two):
        return first, second, one[len(two):], ""
    if two.startswith(one):
        return first, second, "", two[len(one):]
    return None


def partings(machine):
    """All ways to part: (standing, first letter, second letter, word, other word, pair or None)."""
    found = []
    for standing in machine.reached:
        steps = list(zip(machine.alphabet, machine.rules[standing]))
        for place, (second, (behind, other)) in enumerate(steps):
            for first, (ahead, word) in steps[:place]:
                pair = pair_after(ahead, behind, word, other)
                found.append((standing, first, second, word, other, pair))
    return found


def readings(machine, pair):
    """All letters that a run may read: (side, letter, bits, other bits, next pair or None)."""
    first, second, first_lead, second_lead = pair
    found = []
    if first_lead == "":
        for letter, (following, word) in zip(machine.alphabet, machine.rules[first]):
            after = pair_after(following, second, word, second_lead)
            found.append((0, letter, word, second_lead, after))
    if second_lead == "":
        for letter, (following, word) in zip(machine.alphabet, machine.rules[second]):
            after = pair_after(first, following, first_lead, word)
            found.append((1, letter, first_lead, word, after))
    return found


def is_meeting(pair):
    """Whether the runs are in the same standing and have written the same."""
    first, second, first_lead, second_lead = pair
    return first == second and first_lead == "" and second_lead == ""


def starting_pairs(machine):
    """All starting pairs, each once, in ascending order."""
    found = {parting[5]: True for parting in partings(machine) if parting[5] is not None}
    return tuple(sorted(list(found)))


def pair_moves(machine, pair):
    """All moves of the pair, as triples (side, letter, next pair)."""
    return tuple([(side, letter, after) for side, letter, _, _, after in readings(machine, pair)
                  if after is not None])


def count_ends(words):
    """How many different strings that are not empty are an end of one of the words."""
    # In order, each turned word begins anew only behind what it shares with
    # the one before it; so no end has to be written out.
    total = 0
    before = ""
    for word in sorted(set([word[::-1] for word in words])):
        total += len(word) - shared_length(before, word)
        before = word
    return total


def walk_room(machine):
    """A number of pairs that the walks of the machine never exceed."""
    reached = len(machine.reached)
    words = [word for standing in machine.reached for _, word in machine.rules[standing]]
    return reached * reached * (2 * count_ends(words) + 1)
