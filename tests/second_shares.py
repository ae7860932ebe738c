"""A second way to shares and refusals, slow and straight from the words of the document. (5)"""

import itertools
import math
from fractions import Fraction

from tests.second import look_by_words


def is_fair_by_words(one, other, match):
    mine = tuple(place for place, _ in match)
    yours = tuple(place for _, place in match)
    if len(set(mine)) != len(mine) or len(set(yours)) != len(yours):
        return False
    return look_by_words(one, mine) == look_by_words(other, yours)


def fair_matches(one, other, most):
    pairs = list(itertools.product(range(one.many), range(other.many)))
    return [
        match for size in range(most + 1) for match in itertools.combinations(pairs, size)
        if is_fair_by_words(one, other, match)
    ]


def demands_of(one, other, level):
    for match in fair_matches(one, other, level):
        yield from ((match, 0, place) for place in range(one.many))
        yield from ((match, 1, place) for place in range(other.many))


def that_come(one, other, demand):
    """The matches that come if a pair of the place, at its side, and any place of the other web is put to the match."""
    match, side, place = demand
    found = []
    for answer in range(other.many if side == 0 else one.many):
        pair = (place, answer) if side == 0 else (answer, place)
        wider = tuple(sorted(set(match) | {pair}))
        if is_fair_by_words(one, other, wider):
            found.append(wider)
    return found


def is_fraction_by_words(thing):
    if type(thing) is not tuple or len(thing) != 2 or any(type(part) is not int for part in thing):
        return False
    return thing[0] > 0 and thing[1] > 0 and math.gcd(*thing) == 1


def is_shares_by_words(one, other, level, thing):
    if type(thing) is not dict or any(match not in thing for match in [()]):
        return False
    fair = fair_matches(one, other, level + 1)
    if any(match not in fair for match in thing) or not all(is_fraction_by_words(share) for share in thing.values()):
        return False
    share = {match: Fraction(*told) for match, told in thing.items()}
    if share[()] != 1:
        return False
    return all(
        sum(share.get(wider, 0) for wider in that_come(one, other, demand)) == share.get(demand[0], 0)
        for demand in demands_of(one, other, level)
    )


def is_refusal_by_words(one, other, level, thing):
    demands = list(demands_of(one, other, level))
    if type(thing) is not dict or any(demand not in demands for demand in thing):
        return False
    if any(type(often) is not int or often == 0 for often in thing.values()):
        return False
    counts = {match: 0 for match in fair_matches(one, other, level + 1)}
    for demand, often in thing.items():
        for wider in that_come(one, other, demand):
            counts[wider] += often
        counts[demand[0]] -= often
    return counts.pop(()) > 0 and all(count >= 0 for count in counts.values())
