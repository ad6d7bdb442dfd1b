"""Builds that write the same with fewer characters."""

from outpressed.builds import LONGEST_WORD, Build, steps_of

PLAIN = ("plain", ())


def simplified(build):
    """A build that writes the same bits, without the steps that can be left out or joined."""
    return Build(build.alphabet, row_text(simple_row(steps_of(build))))


def row_text(row):
    """The row of steps as a string."""
    return ">".join([step_text(step) for step in row])


def step_text(step):
    """The step as a string."""
    kind, parts = step
    if kind == "plain":
        return kind
    if kind in ("code", "blocks"):
        told = [part if part != "" else "-" for part in parts]
    else:
        told = [row_text(row) for row in parts]
    return kind + "(" + ",".join(told) + ")"


def simple_row(row):
    """The row with all its steps made simple, and put together where that is no longer."""
    simple = []
    for step in row:
        for part in simple_steps(step):
            # Behind another step plain writes each bit that it reads.
            if len(simple) == 0 or part != PLAIN:
                simple = with_step(simple, part)
    return tuple(simple)


def simple_steps(step):
    """The row of steps that does what the step does; in most cases one step."""
    kind, parts = step
    if kind in ("plain", "code", "blocks"):
        return (step,)
    rows = tuple([simple_row(row) for row in parts])
    if kind == "turns" and len(rows) == 1:
        return rows[0]
    if kind != "late" and is_one_code(rows):
        return rows[0]
    return ((kind, rows),)


def is_one_code(rows):
    """Whether all rows are one and the same code step."""
    return len(rows[0]) == 1 and rows[0][0][0] == "code" and all([row == rows[0] for row in rows])


def with_step(row, step):
    """The row and the step behind it, where codes side by side are made one if that is no longer."""
    if len(row) > 0:
        joined = joined_codes(row[-1], step)
        if joined is not None:
            return with_step(row[:-1], joined)
    return row + [step]


def joined_codes(one, two):
    """One code that does what two codes do one behind the other, if there is one that is no longer, or None."""
    if one[0] != "code" or two[0] != "code":
        return None
    words = [read_by_code(two[1], word) for word in one[1]]
    joined = ("code", tuple(words))
    if max([len(word) for word in words]) > LONGEST_WORD or len(step_text(joined)) > len(row_text((one, two))):
        return None
    return joined


def read_by_code(words, bits):
    """What the words of a code over 01 make of the bits."""
    return "".join([words[int(bit)] for bit in bits])
