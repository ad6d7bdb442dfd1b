"""Builds with names."""

from outpressed.alphabets import check_alphabet, check_text
from outpressed.builds import Build
from outpressed.buildwords import words_of
from outpressed.errors import NoName
from outpressed.widths import index_words


def named_build(name, alphabet):
    """The build with this name over the alphabet."""
    check_alphabet(alphabet)
    many = len(alphabet)
    if name == "unary":
        text = code_text(unary_words(many))
    elif name == "steps":
        text = steps_text(index_words(many))
    elif name == "unary_steps":
        text = steps_text(unary_words(many))
    elif name == "held":
        text = "late(plain)"
    elif name == "pairs":
        text = "blocks(2)"
    elif name == "mixed":
        text = "turns(plain," + code_text(unary_words(many)) + ")"
    else:
        raise NoName(name)
    return Build(alphabet, text)


def unary_words(many):
    """For each one of so many letters as many ones as its index, and a zero where another letter could follow."""
    words = ["1" * index + "0" for index in range(many)]
    if many > 1:
        words[-1] = "1" * (many - 1)
    return words


def code_text(words):
    """The step that always writes the word of the letter."""
    return "code(" + ",".join(words) + ")"


def steps_text(words):
    """The step that writes a letter as the word of its distance from the letter before it."""
    # The first letter goes to the first build, as if the first letter of the alphabet stood before it.
    turned = [words[len(words) - place:] + words[:len(words) - place] for place in range(len(words))]
    return "after(" + ",".join([code_text(row) for row in turned]) + ")"


def named_words(name, alphabet, text):
    """What the build with this name writes for the letters of the text."""
    check_alphabet(alphabet)
    check_text(alphabet, text)
    return words_of(named_build(name, alphabet), text)
