"""Reading back what a machine has written."""

from outpressed.errors import NoSuchText, NotBits, NotWritten
from outpressed.pairs import shared_length
from outpressed.readbacks import sure_walk
from outpressed.walks import silent_steps


class Reader:
    """Reads bits of a machine, and tells each letter as soon as it is certain.

    A thread (standing, rest, text) is a shortest possible text: behind the
    certain text it goes on with this text, leads to the standing, and the
    rest of its bits is not read yet. Each possible text begins with one.
    """

    def __init__(self, machine):
        sure_walk(machine)
        self._machine = machine
        self._threads = [(0, "", "")]
        self._certain = ""
        self._seen = 0

    @property
    def certain(self):
        """The certain text."""
        return self._certain

    @property
    def seen(self):
        """The number of bits read so far."""
        return self._seen

    def feed(self, bits):
        """Read further bits; the letters by which the certain text has become longer."""
        check_bits(bits, self._seen)
        threads = self._threads
        letters = []
        for index, bit in enumerate(bits):
            threads = threads_after(self._machine, threads, bit)
            if len(threads) == 0:
                raise NotWritten(self._seen + index)
            common = common_beginning([text for _, _, text in threads])
            letters.append(common)
            threads = [(standing, rest, text[len(common):]) for standing, rest, text in threads]
        further = "".join(letters)
        self._threads = threads
        self._certain = self._certain + further
        self._seen = self._seen + len(bits)
        return further

    def finish(self, last):
        """The text for which just the bits read so far are written, up to this standing."""
        for standing, text in written_ends(self._machine, self._threads):
            if standing == last:
                return self._certain + text
        raise NoSuchText(last)


def check_bits(bits, before):
    """Raise NotBits for the first character that is no bit, counted on from those before."""
    rest = bits.lstrip("01")
    if rest != "":
        raise NotBits(before + len(bits) - len(rest))


def written_ends(machine, threads):
    """All texts, with their standings, whose bits are just those read so far."""
    ends = [(standing, text) for standing, rest, text in threads if rest == ""]
    at = 0
    while at < len(ends):
        place, text = ends[at]
        for letter, following in silent_steps(machine, place):
            ends.append((following, text + letter))
        at += 1
    return ends


def threads_after(machine, threads, bit):
    """The threads when one bit more is read."""
    going = [(standing, rest[1:], text) for standing, rest, text in threads if rest[:1] == bit]
    for standing, text in written_ends(machine, threads):
        for letter, (following, word) in zip(machine.alphabet, machine.rules[standing]):
            if word[:1] == bit:
                going.append((following, word[1:], text + letter))
    return going


def common_beginning(texts):
    """The longest common beginning of all texts."""
    # In order, all others stand between the first and the last one.
    first = min(texts)
    return first[:shared_length(first, max(texts))]


def read_back(machine, bits, last):
    """The text for which a machine writes these bits and ends in this standing, or None."""
    reader = Reader(machine)
    try:
        reader.feed(bits)
        return reader.finish(last)
    except (NotWritten, NoSuchText):
        return None
