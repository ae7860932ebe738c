"""Turnings: orders by which one web, renamed, is another. (1.2)"""

from levelkin.colours import charts_of, history
from levelkin.errors import TooMany
from levelkin.judging import is_order
from levelkin.webs import renamed

MOST_TURNED = 12
MOST_COUNTED = 8
PAIRS = 2


class Search:
    """Looks for a turning from one web to another, places of which are told apart by pairs.

    A pair of places has a number in each web, pairs of unlike looks unlike ones: so an order is a turning if it
    leads each pair to one of its number. The search may try so many places; None for as many as it takes.
    """

    def __init__(self, one_pairs, other_pairs, tries):
        self.one_pairs = one_pairs
        self.other_pairs = other_pairs
        self.tries = tries

    def fits(self, begun, place):
        """Whether the next place of the one web may be led to this place of the other."""
        at = len(begun)
        if self.tries is not None:
            self.tries = self.tries - 1
        if place in begun or self.one_pairs[at][at] != self.other_pairs[place][place]:
            return False
        for ahead, led in enumerate(begun):
            if self.one_pairs[ahead][at] != self.other_pairs[led][place]:
                return False
        return True

    def extended(self, begun):
        """A whole turning by which the first places are led to these, or None if there is none, or no try is left."""
        many = len(self.one_pairs)
        if len(begun) == many:
            return begun
        for place in range(many):
            if self.tries is not None and self.tries <= 0:
                return None
            if self.fits(begun, place):
                order = self.extended((*begun, place))
                if order is not None:
                    return order
        return None


def pairs_by(chart, numbers):
    """For each place, for each place, the number of the row of both: of a level from 2 on."""
    first = chart.number_of((0, 0))
    return [numbers[first + chart.many * place:first + chart.many * (place + 1)] for place in range(chart.many)]


def pairs_of(webs):
    """For each web the numbers of its pairs of places: the colours of level 2."""
    _, charts = charts_of(webs, PAIRS)
    return [pairs_by(chart, numbers) for chart, numbers in zip(charts, history(charts)[-1])]


def check_places(webs, most):
    """Raises the error if one of the webs has more places."""
    if max([web.many for web in webs]) > most:
        raise TooMany(most)


def turning(one, other):
    """An order by which one, renamed, is other, or None if there is none."""
    check_places([one, other], MOST_TURNED)
    if one.many != other.many:
        return None
    one_pairs, other_pairs = pairs_of([one, other])
    return Search(one_pairs, other_pairs, None).extended(())


def is_turning(one, other, thing):
    """Whether a thing is an order by which one, renamed, is other."""
    return is_order(one.many, thing) and renamed(one, thing) == other


def many_turnings(web):
    """How many turnings lead from a web to itself.

    They are as many as there are places to which the first place may be led, times those to which the second
    may be led if the first one stays, and so on.
    """
    check_places([web], MOST_COUNTED)
    pairs = pairs_of([web])[0]
    turnings = 1
    stay = ()
    for at in range(web.many):
        search = Search(pairs, pairs, None)
        led = [place for place in range(web.many) if is_led(search, stay, place)]
        turnings = turnings * len(led)
        stay = (*stay, at)
    return turnings


def is_led(search, stay, place):
    """Whether a turning leads the first places to those that stay, and the next one to this place."""
    return search.fits(stay, place) and search.extended((*stay, place)) is not None
