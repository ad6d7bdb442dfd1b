"""The errors of the program. Each one keeps its arguments as fields."""


class PressError(ValueError):
    """The base class of all errors that the program raises."""


class BadAlphabet(PressError):
    """The string is not an alphabet."""

    def __init__(self, alphabet):
        self.alphabet = alphabet


class BadLetter(PressError):
    """The character at this index is not a letter of the alphabet."""

    def __init__(self, index):
        self.index = index


class BadRow(PressError):
    """The row at this index is not good."""

    def __init__(self, index):
        self.index = index


class BadTail(PressError):
    """The tail number is not good."""

    def __init__(self, tail):
        self.tail = tail


class BadRank(PressError):
    """No text has this rank."""

    def __init__(self, rank):
        self.rank = rank


class NotBits(PressError):
    """The character at this index is neither 0 nor 1."""

    def __init__(self, index):
        self.index = index


class BadIndex(PressError):
    """The index is not within what is asked."""

    def __init__(self, index):
        self.index = index


class BadStanding(PressError):
    """The standing does not have one rule for each letter, or is not there."""

    def __init__(self, standing):
        self.standing = standing


class BadRule(PressError):
    """The rule of this standing and letter is not a rule."""

    def __init__(self, standing, letter):
        self.standing = standing
        self.letter = letter


class AlphabetsDiffer(PressError):
    """Two alphabets that have to be the same are not."""

    def __init__(self, one, two):
        self.one = one
        self.two = two


class DoesNotComeBack(PressError):
    """The texts of a machine do not come back: these two are twins."""

    def __init__(self, one, two):
        self.one = one
        self.two = two


class TooLarge(PressError):
    """There would be more than the program looks at."""

    def __init__(self, number):
        self.number = number


class NotWritten(PressError):
    """After the bit at this index no text is possible."""

    def __init__(self, index):
        self.index = index


class NoSuchText(PressError):
    """No text writes these bits and ends in this standing."""

    def __init__(self, last):
        self.last = last


class BadName(PressError):
    """The string is not a name."""

    def __init__(self, name):
        self.name = name


class NameTaken(PressError):
    """There is a machine with this name."""

    def __init__(self, name):
        self.name = name


class NoName(PressError):
    """There is nothing with this name."""

    def __init__(self, name):
        self.name = name


class EmptyRing(PressError):
    """The ring of an endless text is empty."""


class NotInLot(PressError):
    """The text is not in the lot."""

    def __init__(self, text):
        self.text = text


class BadBuild(PressError):
    """No build begins with the characters up to this index."""

    def __init__(self, index):
        self.index = index


class BadGrowth(PressError):
    """The rule at this index is neither a letter nor a pair of earlier rules."""

    def __init__(self, index):
        self.index = index


class EmptyText(PressError):
    """The text is empty."""


class NothingToUndo(PressError):
    """There is no deed to take back."""


class NothingToRedo(PressError):
    """There is no deed to do again."""
