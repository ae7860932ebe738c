"""Shares: fractions that keep all demands of a level. (5.1)"""

from math import gcd

from levelkin.colours import charts_of, history, sights_numbered
from levelkin.errors import NoLevel, TooMany
from levelkin.judging import is_below, is_level, is_whole
from levelkin.webs import Eye

MOST_MATCHES = 300000


class Matches:
    """Judges matches of two webs."""

    def __init__(self, one, other):
        self.sizes = (one.many, other.many)
        self.eyes = (Eye(one), Eye(other))
        self.looks = ({}, {})

    def is_match(self, most, thing):
        """Whether a thing is an ascending tuple of at most so many unlike pairs of places."""
        if not isinstance(thing, tuple) or len(thing) > most or not all([self.is_pair(pair) for pair in thing]):
            return False
        return all([ahead < pair for ahead, pair in zip(thing, thing[1:])])

    def is_pair(self, thing):
        """Whether a thing is a pair of places, one of each web."""
        if not isinstance(thing, tuple) or len(thing) != 2:
            return False
        return is_below(self.sizes[0], thing[0]) and is_below(self.sizes[1], thing[1])

    def look(self, side, row):
        """The look of a row of the web at this side; kept, since many matches have it."""
        looks = self.looks[side]
        if row not in looks:
            looks[row] = self.eyes[side].look_at(row)
        return looks[row]

    def is_fair(self, match):
        """Whether no place comes twice in unlike pairs, and their rows of places have one look.

        Looks tell where one place comes twice: in unlike pairs that is never so in both rows.
        """
        mine = tuple([place for place, _ in match])
        yours = tuple([place for _, place in match])
        return self.look(0, mine) == self.look(1, yours)

    def is_fair_match(self, most, thing):
        """Whether a thing is a fair match of at most so many pairs."""
        return self.is_match(most, thing) and self.is_fair(thing)

    def with_place(self, match, side, place):
        """The fair matches that come if a pair of this place at its side is put to a match that has none of it."""
        found = []
        for answer in range(self.sizes[1 - side]):
            pair = (place, answer) if side == 0 else (answer, place)
            wider = tuple(sorted([*match, pair]))
            if self.is_fair(wider):
                found.append(wider)
        return found


def check_sizes(one, other, level):
    """Raises the errors for what is no level, and for webs with too many matches of it."""
    if not is_level(level):
        raise NoLevel()
    matches = 1
    for _ in range(level + 1):
        matches = matches * one.many * other.many
    if matches > MOST_MATCHES:
        raise TooMany(MOST_MATCHES)


def rows_by_colours(chart, numbers, sights):
    """The rows of unlike places, one place more than the level lets at most, by what is known of them.

    Of a row of the level's length with a place behind it, that is its number and its sight at this place.
    """
    found = {}
    for at, row in enumerate(chart.rows):
        if len(set(row)) == len(row):
            found.setdefault((numbers[at],), []).append(row)
            if len(row) == chart.level:
                for place, sight in enumerate(sights[at]):
                    if place not in row:
                        found.setdefault((numbers[at], sight), []).append((*row, place))
    return found


def shares(one, other, level):
    """Fractions for fair matches that keep all demands of the level, or None if there are none.

    All matches of two rows that colours cannot tell apart have one share: one of as many as a web has such rows.
    """
    check_sizes(one, other, level)
    if one.many != other.many:
        return None
    _, charts = charts_of([one, other], level)
    numbers = history(charts)[-1]
    if numbers[0][0] != numbers[1][0]:
        return None
    sights = sights_numbered(charts, numbers)
    mine, yours = [rows_by_colours(chart, own, seen) for chart, own, seen in zip(charts, numbers, sights)]
    told = {}
    for known, rows in mine.items():
        for row in rows:
            # A match is ascending: so each of its orders but one is left out.
            if row == tuple(sorted(row)):
                for answer in yours[known]:
                    told[tuple(zip(row, answer))] = (1, len(rows))
    return told


def is_fraction(thing):
    """Whether a thing is a fraction above 0."""
    if not isinstance(thing, tuple) or len(thing) != 2:
        return False
    top, bottom = thing
    return is_whole(top) and is_whole(bottom) and top > 0 and bottom > 0 and gcd(top, bottom) == 1


def added(one, other):
    """The sum of two fractions."""
    top = one[0] * other[1] + other[0] * one[1]
    bottom = one[1] * other[1]
    common = gcd(top, bottom)
    return top // common, bottom // common


def sums_of(told):
    """For each demand to whose sum a share comes, but those of places that the match has already, the sum."""
    sums = {}
    for match, share in told.items():
        for at, pair in enumerate(match):
            less = match[:at] + match[at + 1:]
            for side in range(2):
                demand = (less, side, pair[side])
                sums[demand] = added(sums.get(demand, (0, 1)), share)
    return sums


def are_kept(sizes, level, told):
    """Whether the shares keep all demands.

    A demand of a place that its match has already is always kept. Of a match without a share, no sum may be there.
    """
    sums = sums_of(told)
    if not all([match in told for match, _, _ in sums]):
        return False
    for match, share in told.items():
        if len(match) <= level:
            for side in range(2):
                taken = [pair[side] for pair in match]
                for place in range(sizes[side]):
                    if place not in taken and sums.get((match, side, place)) != share:
                        return False
    return True


def is_shares(one, other, level, thing):
    """Whether a thing is a dict of shares that keep all demands of the level."""
    check_sizes(one, other, level)
    # All pairs with places of one have as many shares together as one has places: so there must be as many in other.
    if one.many != other.many or not isinstance(thing, dict) or thing.get(()) != (1, 1):
        return False
    matches = Matches(one, other)
    if not all([matches.is_fair_match(level + 1, match) for match in thing]):
        return False
    if not all([is_fraction(share) for share in thing.values()]):
        return False
    return are_kept(matches.sizes, level, thing)
