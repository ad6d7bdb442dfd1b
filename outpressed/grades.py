"""What the form of a build promises of its machine."""

from outpressed.alphabets import LETTERS
from outpressed.builds import steps_of
from outpressed.instants import is_instant_row
from outpressed.machines import Machine
from outpressed.readbacks import comes_back


def grade(build):
    """2 if the machine is instant for sure, 1 if its texts come back for sure, otherwise 0."""
    return row_grade(steps_of(build))


def row_grade(row):
    """The grade of a row of steps."""
    return min([step_grade(step) for step in row])


def step_grade(step):
    """The grade of a step."""
    kind, parts = step
    if kind == "plain":
        return 2
    if kind == "blocks":
        return 2 if parts == ("1",) else 1
    if kind == "code":
        return code_grade(parts)
    inner = [row_grade(row) for row in parts]
    if kind == "late":
        return min(inner[0], 1)
    if kind == "turns" and len(inner) == 1:
        return inner[0]
    return 2 if min(inner) == 2 else 0


def code_grade(words):
    """The grade of the words of a code."""
    if is_instant_row(words):
        return 2
    # Which letters they belong to makes no difference.
    machine = Machine(LETTERS[:len(words)], [[(0, word) for word in words]])
    return 1 if comes_back(machine).holds else 0
