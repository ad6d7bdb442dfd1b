"""Lot places: a machine and a lot that read the same text, as one machine."""

from outpressed.lots import lot_places
from outpressed.machines import Machine


def places_machine(machine, lot):
    """All reached lot places in ascending order, and the machine that has them as its standings, in this order."""
    places = sorted(lot_places(machine, lot)[0])
    numbers = {place: number for number, place in enumerate(places)}
    rules = [[(numbers[(following, behind)], word) for (following, word), behind
              in zip(machine.rules[standing], lot.rows[place][1])] for standing, place in places]
    return places, Machine(machine.alphabet, rules)


def is_dead(lot, standing):
    """Whether no text of the lot goes on from this standing of its rows."""
    # The rows are as few as can be, so all such standings are one, and it leads to itself alone.
    accepts, nexts = lot.rows[standing]
    return not accepts and all([following == standing for following in nexts])
