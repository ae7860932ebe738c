"""Refusals: multipliers by which the demands of a level say that nought is above 0. (5.2)"""

from levelkin.games import led_on, plan
from levelkin.judging import is_below, is_whole
from levelkin.shares import Matches, check_sizes


def match_of(standing):
    """The match of the pairs of a standing."""
    return tuple(sorted(list(zip(*standing))))


def put_more(counts, key, more):
    """Counts a key so many times more."""
    counts[key] = counts.get(key, 0) + more


def refusal_by_sizes(one, other):
    """A refusal of webs with unlike numbers of places: each pair of places comes once on either side."""
    sign = 1 if one.many < other.many else -1
    told = {((), 0, place): sign for place in range(one.many)}
    for place in range(other.many):
        told[((), 1, place)] = -sign
    return told


def refusal_by_plan(one, other, level, told):
    """A refusal of webs for which there is a plan.

    At a standing of the plan the demands of its match, those of mine taken away and those of yours put to them,
    leave its own share, and take away only shares of matches of a place of mine and one that is not of yours. These
    are given back by what is told at the standings to which they lead: so each is told as often as it is needed.
    """
    matches = Matches(one, other)
    begin = ((), ())
    times = {begin: 1}
    demands = {}
    for _, standing in sorted([(-entry[0], standing) for standing, entry in told.items()]):
        often = times.get(standing, 0)
        match = match_of(standing)
        _, mine, yours = told[standing]
        for place in mine:
            put_more(demands, (match, 0, place), -often)
        for place in yours:
            put_more(demands, (match, 1, place), often)
        for place in mine:
            for answer in range(other.many):
                if answer not in yours and matches.is_fair((*match, (place, answer))):
                    index, after = led_on(level, told, standing, place, answer)
                    put_more(times, after, often)
                    if index is not None:
                        # The match that is led to lacks the pair that was exchanged: its demand has the wider one.
                        put_more(demands, (match_of(after), 0, standing[0][index]), often)
    return {demand: often for demand, often in demands.items() if often != 0}


def refusal(one, other, level):
    """Multipliers of demands by which there are no shares, or None if there are shares."""
    check_sizes(one, other, level)
    if one.many != other.many:
        return refusal_by_sizes(one, other)
    told = plan(one, other, level)
    if told is None:
        return None
    return refusal_by_plan(one, other, level, told)


def is_demand(matches, level, thing):
    """Whether a thing is a triple (match, side, place): a fair match of the level, and a place at a side."""
    if not isinstance(thing, tuple) or len(thing) != 3:
        return False
    match, side, place = thing
    if not is_below(2, side) or not is_below(matches.sizes[side], place):
        return False
    return matches.is_fair_match(level, match)


def summed(matches, told):
    """How often each match is taken if all demands are, each as often as it is told."""
    counts = {}
    for (match, side, place), often in told.items():
        # A pair of a place that the match has already leaves it as it is: such a demand takes nothing.
        if place not in [pair[side] for pair in match]:
            put_more(counts, match, -often)
            for wider in matches.with_place(match, side, place):
                put_more(counts, wider, often)
    return counts


def is_refusal(one, other, level, thing):
    """Whether a thing is a dict of multipliers by which there are no shares."""
    check_sizes(one, other, level)
    if not isinstance(thing, dict):
        return False
    matches = Matches(one, other)
    if not all([is_demand(matches, level, demand) for demand in thing]):
        return False
    if not all([is_whole(often) and often != 0 for often in thing.values()]):
        return False
    counts = summed(matches, thing)
    return counts.get((), 0) > 0 and all([often >= 0 for often in counts.values()])
