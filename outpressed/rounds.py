"""Endless texts that come round."""

from outpressed.alphabets import check_alphabet, check_text
from outpressed.errors import EmptyRing
from outpressed.stretches import fill, fill_evenly
from outpressed.tables import colors_of


class Round:
    """A head, followed by a ring again and again; both are kept as short as can be."""

    def __init__(self, alphabet, head, ring):
        check_alphabet(alphabet)
        check_text(alphabet, head)
        check_text(alphabet, ring)
        if ring == "":
            raise EmptyRing()
        root = ring[:(ring + ring).find(ring, 1)]
        turned = turned_letters(head, root)
        # A letter at the end of the head that is also the last one of the ring
        # may as well begin the ring: so the ring is turned back by it.
        place = len(root) - turned % len(root)
        self.alphabet = alphabet
        self.head = head[:len(head) - turned]
        self.ring = root[place:] + root[:place]
        self.variety = len(self.head) + len(self.ring)

    def __eq__(self, other):
        return (isinstance(other, Round) and self.alphabet == other.alphabet
                and self.head == other.head and self.ring == other.ring)

    def letter_of(self, index):
        """The letter at the index."""
        if index < len(self.head):
            return self.head[index]
        return self.ring[(index - len(self.head)) % len(self.ring)]

    def beginning(self, length):
        """The first so many letters."""
        return (self.head + self.ring * (length // len(self.ring) + 1))[:length]


def turned_letters(head, ring):
    """How many letters at the end of the head are those of the ring, read backwards again and again."""
    turned = 0
    while turned < len(head) and head[-1 - turned] == ring[-1 - turned % len(ring)]:
        turned += 1
    return turned


def word_counts(endless):
    """How many words of 0, 1, 2 and so on letters there are, up to the first number that is the variety."""
    letters = endless.head + endless.ring
    nexts = list(range(1, len(letters))) + [len(endless.head)]
    # Words of one length begin alike if their first letters and the words
    # behind these are alike; and as long as not all are apart, more and more are.
    classes = [0] * len(letters)
    counts = [1]
    while counts[-1] < endless.variety:
        classes = colors_of([(letter, classes[following]) for letter, following in zip(letters, nexts)])
        counts.append(max(classes) + 1)
    return counts


def word_count(endless, length):
    """How many different words of so many letters stand in the endless text."""
    counts = word_counts(endless)
    return counts[min(length, len(counts) - 1)]


def pieces_bound(endless, length):
    """The most pieces that the beginning of so many letters could have, by its words."""
    counts = word_counts(endless)
    letters = sum([size * count for size, count in enumerate(counts)])
    if length < letters:
        return fill(length, counts[1:])
    return sum(counts[1:]) + fill_evenly(length - letters, len(counts), endless.variety)
