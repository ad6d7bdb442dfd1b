"""The machine with one standing that writes the fewest bits for a text."""

from outpressed.alphabets import check_alphabet, check_text
from outpressed.machines import Machine


def best_one(alphabet, text):
    """A machine with one standing, whose texts come back, that writes the fewest bits for the text."""
    check_alphabet(alphabet)
    check_text(alphabet, text)
    words = cheapest_words([text.count(letter) for letter in alphabet])
    return Machine(alphabet, [[(0, word) for word in words]])


def cheapest_words(counts):
    """Words that have the fewest bits together, if each one is written so often.

    No word is a beginning of another one, also not of one that is never written.
    """
    if len(counts) == 1:
        # Joining would leave the only word empty, and its texts would not come back.
        return ["0"]
    words = [""] * len(counts)
    groups = sorted([(count, [place]) for place, count in enumerate(counts)])
    while len(groups) > 1:
        least, zeros = groups[0]
        more, ones = groups[1]
        for place in zeros:
            words[place] = "0" + words[place]
        for place in ones:
            words[place] = "1" + words[place]
        groups = sorted(groups[2:] + [(least + more, zeros + ones)])
    return words
