"""All that a machine may have written for the texts of a lot, bit by bit."""

from outpressed.lots import lot_places


class Ends:
    """The ends of words, numbered: so long words are followed bit by bit without being copied.

    End 0 is empty. firsts has the first bit of each end, shorter the number of
    the end behind this bit, longer the numbers of the ends with a bit before it.
    """

    def __init__(self):
        self.firsts = [""]
        self.shorter = [0]
        self.longer = [{}]

    def number_of(self, word):
        """The number of the end that is the whole word."""
        number = 0
        for bit in word[::-1]:
            if bit not in self.longer[number]:
                self.longer[number][bit] = len(self.longer)
                self.firsts.append(bit)
                self.shorter.append(number)
                self.longer.append({})
            number = self.longer[number][bit]
        return number


class Writing:
    """The sets S(y) of a machine and a lot, for strings y of bits.

    A place is a pair of standings of the machine and of the lot. A set is kept
    as pairs (end, mask), one for each rest that occurs: the bit 1 << place is in
    the mask if the place occurs with this rest. Most sets have many places for
    few rests, and all places with one rest go on together.
    """

    def __init__(self, machine, lot):
        self.ends = Ends()
        words = [[self.ends.number_of(word) for _, word in row] for row in machine.rules]
        places, table = lot_places(machine, lot)
        self.accepting = sum([1 << number for number, (_, standing) in enumerate(places) if lot.rows[standing][0]])
        rows = [list(zip(nexts, words[standing])) for (standing, _), nexts in zip(places, table)]
        self.steps = {bit: [self.steps_with(row, bit) for row in rows] for bit in ("", "0", "1")}

    def steps_with(self, row, bit):
        """The steps of the row whose words begin with the bit, as (next place, end behind the bit)."""
        return [(following, self.ends.shorter[word]) for following, word in row if self.ends.firsts[word] == bit]

    def begun(self):
        """The set of the empty string."""
        return ((0, self.silently_on(1)),)

    def silently_on(self, mask):
        """The places of the mask, and all those to which nothing is written from there."""
        order = bits_of(mask)
        at = 0
        while at < len(order):
            place = order[at]
            for following, _ in self.steps[""][place]:
                if not mask & (1 << following):
                    mask = mask | (1 << following)
                    order.append(following)
            at += 1
        return mask

    def after(self, current, bit):
        """The set of the string that is longer by the bit."""
        later = {}
        for end, mask in current:
            if end == 0:
                for place in bits_of(mask):
                    for following, left in self.steps[bit][place]:
                        later[left] = later.get(left, 0) | (1 << following)
            elif self.ends.firsts[end] == bit:
                left = self.ends.shorter[end]
                later[left] = later.get(left, 0) | mask
        if 0 in later:
            later[0] = self.silently_on(later[0])
        return tuple(sorted(list(later.items())))

    def accepts(self, current):
        """Whether some text of the lot writes just the string of this set."""
        return dict(current).get(0, 0) & self.accepting != 0


def bits_of(mask):
    """The numbers of the bits in the mask, in ascending order."""
    digits = f"{mask:b}"
    return [number for number, digit in enumerate(digits[::-1]) if digit == "1"]
