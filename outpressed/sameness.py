"""Machines that write the same."""

from outpressed.alphabets import check_same_alphabet
from outpressed.machines import Machine, nexts_of
from outpressed.tables import fewest_standings


def leader_of(leaders, standing):
    """The standing that stands for the group of this one."""
    while leaders[standing] != standing:
        leaders[standing] = leaders[leaders[standing]]
        standing = leaders[standing]
    return standing


def joined_anew(leaders, one, two):
    """Join the groups of two standings; whether they were apart."""
    first = leader_of(leaders, one)
    second = leader_of(leaders, two)
    leaders[second] = first
    return first != second


def text_behind(queue, at):
    """The text that leads to an entry of the queue."""
    letters = []
    while at > 0:
        letters.append(queue[at][3])
        at = queue[at][2]
    return "".join(letters[::-1])


def same_writing(one, two):
    """The least text for which two machines write different bits, or None."""
    check_same_alphabet(one.alphabet, two.alphabet)
    # Two standings that are in one group by pairs met before need no look:
    # a text that parts them parts one of those pairs, behind a lesser text.
    leaders = list(range(one.standings + two.standings))
    joined_anew(leaders, 0, one.standings)
    queue = [(0, 0, 0, "")]
    at = 0
    while at < len(queue):
        first = one.rules[queue[at][0]]
        second = two.rules[queue[at][1]]
        for letter, (ahead, word), (behind, other) in zip(one.alphabet, first, second):
            if word != other:
                return text_behind(queue, at) + letter
            if joined_anew(leaders, ahead, one.standings + behind):
                queue.append((ahead, behind, at, letter))
        at += 1
    return None


def least_machine(machine):
    """The machine with the fewest standings that writes the same."""
    words = [tuple([word for _, word in row]) for row in machine.rules]
    order, nexts = fewest_standings(words, nexts_of(machine.rules))
    return Machine(machine.alphabet, [list(zip(row, words[standing])) for standing, row in zip(order, nexts)])
