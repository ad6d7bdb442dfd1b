"""Alphabets, their letters and their texts."""

from outpressed.errors import AlphabetsDiffer, BadAlphabet, BadLetter

LETTERS = "0123456789abcdefghijklmnopqrstuvwxyz"
MOST_LETTERS = 6


def is_alphabet(string):
    """Whether the string is an alphabet: different letters in ascending order."""
    if len(string) < 1 or len(string) > MOST_LETTERS:
        return False
    if string.strip(LETTERS) != "":
        return False
    return all([one < two for one, two in zip(string, string[1:])])


def is_letter(alphabet, value):
    """Whether the value is one letter of the alphabet."""
    # Without the length, the empty string and "ab" would be found in "abc".
    return isinstance(value, str) and len(value) == 1 and value in alphabet


def check_alphabet(alphabet):
    """Raise BadAlphabet if the string is not an alphabet."""
    if not is_alphabet(alphabet):
        raise BadAlphabet(alphabet)


def check_text(alphabet, text):
    """Raise BadLetter for the first character that is not a letter."""
    rest = text.lstrip(alphabet)
    if rest != "":
        raise BadLetter(len(text) - len(rest))


def check_same_alphabet(one, two):
    """Raise AlphabetsDiffer if two alphabets are not the same."""
    if one != two:
        raise AlphabetsDiffer(one, two)
