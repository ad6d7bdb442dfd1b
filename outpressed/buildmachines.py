"""The machine that a build describes."""

from outpressed.buildwords import BuildReader
from outpressed.machines import Machine


def machine_of_build(build):
    """The machine that writes what the build writes, with one standing for all that the build can remember."""
    reader = BuildReader(build)
    states = [tuple(reader.cells)]
    numbers = {states[0]: 0}
    rules = []
    while len(rules) < len(states):
        state = states[len(rules)]
        row = []
        for letter in build.alphabet:
            reader.cells = list(state)
            word = reader.read(letter)
            after = tuple(reader.cells)
            if after not in numbers:
                numbers[after] = len(states)
                states.append(after)
            row.append((numbers[after], word))
        rules.append(row)
    return Machine(build.alphabet, rules)
