"""The least and the greatest number of bits for a letter on endless texts that go through a lot."""

from outpressed.alphabets import check_same_alphabet
from outpressed.errors import TooLarge
from outpressed.lotplaces import is_dead, places_machine
from outpressed.machines import nexts_of
from outpressed.rates import cost_steps, least_mean
from outpressed.rounds import Round
from outpressed.tables import roads_in

MOST_PLACES = 400


class LotRates:
    """The least and the greatest rate, and an endless text with each of them."""

    def __init__(self, least, greatest, least_round, greatest_round):
        self.least = least
        self.greatest = greatest
        self.least_round = least_round
        self.greatest_round = greatest_round


def goes_through(endless, lot):
    """Whether each beginning of the endless text is the beginning of a text of the lot."""
    check_same_alphabet(endless.alphabet, lot.alphabet)
    # The dead standing is never left, so it is enough to look at one that comes round.
    standing = standing_behind(lot, endless.head, 0)
    found = {}
    while standing not in found:
        found[standing] = True
        standing = standing_behind(lot, endless.ring, standing)
    return not is_dead(lot, standing)


def standing_behind(lot, text, start):
    """The standing of the lot behind the text, read from the start on."""
    places = {letter: place for place, letter in enumerate(lot.alphabet)}
    standing = start
    for letter in text:
        standing = lot.rows[standing][1][places[letter]]
    return standing


def lot_rates(machine, lot):
    """The LotRates of a machine and a lot."""
    check_same_alphabet(machine.alphabet, lot.alphabet)
    places, joined = places_machine(machine, lot)
    if len(places) > MOST_PLACES:
        raise TooLarge(len(places))
    living = [number for number, (_, place) in enumerate(places) if not is_dead(lot, place)]
    least = least_mean(cost_steps(joined, living, 1))
    if least is None:
        return LotRates(None, None, None, None)
    greatest = least_mean(cost_steps(joined, living, -1))
    roads = roads_in(machine.alphabet, nexts_of(joined.rules))
    return LotRates((least[0], least[1]), (-greatest[0], greatest[1]),
                    round_by(machine.alphabet, roads, least), round_by(machine.alphabet, roads, greatest))


def round_by(alphabet, roads, mean):
    """The endless text that goes to the standing of the mean, and there along its loop for ever."""
    _, _, standing, loop, _ = mean
    return Round(alphabet, roads[standing], loop)
