"""Machines that tell each letter by its word alone."""


def is_instant(machine):
    """Whether in each standing no word is empty, and none is a beginning of another letter's word."""
    return all([is_instant_row([word for _, word in row]) for row in machine.rules])


def is_instant_row(words):
    """Whether no word is empty, and none is a beginning of another one."""
    # In order, a word that has continuations stands just before one of them.
    ordered = sorted(words)
    if ordered[0] == "":
        return False
    return not any([longer.startswith(word) for word, longer in zip(ordered, ordered[1:])])
