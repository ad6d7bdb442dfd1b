"""Builds: strings that describe machines, and their steps.

A step is a pair (kind, parts): no parts for plain, the words for code, the
digit for blocks, and a row of steps for each build within any other kind.
"""

from outpressed.alphabets import check_alphabet
from outpressed.errors import BadBuild

# No two of them begin alike, so the first character tells which one it is.
HEADS = ("plain", "code(", "blocks(", "late(", "turns(", "after(")
DIGITS = "123456789"
LONGEST_WORD = 12
MOST_TURNS = 4


class Build:
    """A string that describes a machine over the alphabet."""

    def __init__(self, alphabet, text):
        check_alphabet(alphabet)
        _, end = read_row(alphabet, text, 0)
        if end < len(text):
            raise BadBuild(end)
        self.alphabet = alphabet
        self.text = text


def steps_of(build):
    """The row of the steps of a build."""
    row, _ = read_row(build.alphabet, build.text, 0)
    return row


def read_row(alphabet, text, at):
    """The row of steps that stands at this place of the text, and the place behind it.

    This function, and each one below, raises BadBuild for the first character
    with which no build begins that begins with all characters before it.
    """
    step, at = read_step(alphabet, text, at)
    row = [step]
    while text[at:at + 1] == ">":
        step, at = read_step("01", text, at + 1)
        row.append(step)
    return tuple(row), at


def read_step(alphabet, text, at):
    """The step at this place, and the place behind it."""
    head = read_head(text, at)
    at += len(head)
    kind = head.rstrip("(")
    if kind == "plain":
        return (kind, ()), at
    if kind == "code":
        parts, at = read_words(text, at, len(alphabet))
    elif kind == "blocks":
        parts, at = read_digit(text, at)
    elif kind == "late":
        parts, at = read_builds(alphabet, text, at, 1, 1)
    elif kind == "turns":
        parts, at = read_builds(alphabet, text, at, 1, MOST_TURNS)
    else:
        parts, at = read_builds(alphabet, text, at, len(alphabet), len(alphabet))
    return (kind, parts), at


def read_head(text, at):
    """The head of the step at this place."""
    for head in HEADS:
        if text[at:at + 1] == head[0]:
            pass_by(text, at, head)
            return head
    raise BadBuild(at)


def pass_by(text, at, wanted):
    """The place behind the wanted string, which has to stand at this place."""
    for place, letter in enumerate(wanted, start=at):
        if text[place:place + 1] != letter:
            raise BadBuild(place)
    return at + len(wanted)


def read_words(text, at, many):
    """So many words and the bracket that closes them, and the place behind it."""
    word, at = read_word(text, at)
    words = [word]
    while len(words) < many:
        word, at = read_word(text, pass_by(text, at, ","))
        words.append(word)
    return tuple(words), pass_by(text, at, ")")


def read_word(text, at):
    """The word at this place, and the place behind it."""
    if text[at:at + 1] == "-":
        return "", at + 1
    end = at
    while end < at + LONGEST_WORD and text[end:end + 1] in ("0", "1"):
        end += 1
    if end == at:
        raise BadBuild(at)
    return text[at:end], end


def read_digit(text, at):
    """A digit from 1 on and the bracket that closes it, and the place behind it."""
    digit = text[at:at + 1]
    if digit == "" or digit not in DIGITS:
        raise BadBuild(at)
    return (digit,), pass_by(text, at + 1, ")")


def read_builds(alphabet, text, at, fewest, most):
    """So many builds and the bracket that closes them, and the place behind it."""
    row, at = read_row(alphabet, text, at)
    builds = [row]
    while len(builds) < fewest or (len(builds) < most and text[at:at + 1] != ")"):
        row, at = read_row(alphabet, text, pass_by(text, at, ","))
        builds.append(row)
    return tuple(builds), pass_by(text, at, ")")
