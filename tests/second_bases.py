"""A second way to bases, bags, havens and twisted webs, slow and straight from the words of the document. (6)"""

import itertools

from levelkin.webs import Web


def near_of(base, place):
    return {b for a, b in base.ties if a == place} | {a for a, b in base.ties if b == place}


def is_together(places, pairs):
    """Whether some things, one at least, hang together by pairs of them."""
    found = {min(places)}
    for _ in places:
        for one, other in pairs:
            if one in places and other in places and (one in found or other in found):
                found |= {one, other}
    return found == set(places)


def lots_by_words(many, most):
    return [lot for size in range(most + 1) for lot in itertools.combinations(range(many), size)]


def is_lot_by_words(many, thing):
    return (
        type(thing) is tuple and all(type(p) is int and 0 <= p < many for p in thing)
        and list(thing) == sorted(set(thing))
    )


def is_bags_by_words(base, width, thing):
    if type(thing) is not tuple or len(thing) != 2 or any(type(part) is not tuple for part in thing):
        return False
    bags, links = thing
    if not bags or not all(is_lot_by_words(base.many, bag) and len(bag) - 1 <= width for bag in bags):
        return False
    for link in links:
        if type(link) is not tuple or len(link) != 2 or any(type(number) is not int for number in link):
            return False
        if not 0 <= link[0] < link[1] < len(bags):
            return False
    if list(links) != sorted(set(links)) or len(links) != len(bags) - 1:
        return False
    if not is_together(range(len(bags)), links):
        return False
    for place in range(base.many):
        holding = [number for number, bag in enumerate(bags) if place in bag]
        if not holding or not is_together(holding, links):
            return False
    return all(any(a in bag and b in bag for bag in bags) for a, b in base.ties)


def width_by_words(base):
    """The least width, by all orders in which places may go, what is left around each one being tied together."""
    least = base.many
    for order in itertools.permutations(range(base.many)):
        near = {place: near_of(base, place) for place in order}
        most = 0
        for place in order:
            around = near.pop(place)
            most = max(most, len(around))
            for other in around:
                near[other] = (near[other] | around) - {other, place}
        least = min(least, most)
    return least


def has_bags_by_words(base, width):
    """Whether there are bags of at most this width, by trying all of at most as many bags as places."""
    lots = [lot for lot in lots_by_words(base.many, width + 1)]
    for many in range(1, base.many + 1):
        pairs = list(itertools.combinations(range(many), 2))
        for links in itertools.combinations(pairs, many - 1):
            if is_together(range(many), links):
                for bags in itertools.product(lots, repeat=many):
                    if is_bags_by_words(base, width, (bags, links)):
                        return True
    return False


def parts_by_words(base, without):
    """The parts, as lots, of what is left of a base without some places, that no tie joins with others left."""
    left = set(range(base.many)) - set(without)
    parts = []
    while left:
        part = {min(left)}
        for _ in range(base.many):
            part |= {other for place in part for other in near_of(base, place) & left}
        parts.append(tuple(sorted(part)))
        left -= part
    return parts


def is_haven_by_words(base, width, thing):
    lots = lots_by_words(base.many, width + 1)
    if type(thing) is not dict or set(thing) != set(lots):
        return False
    for lot in lots:
        if type(thing[lot]) is not tuple or thing[lot] not in parts_by_words(base, lot):
            return False
        if any(type(place) is not int for place in thing[lot]):
            return False
    return all(
        set(thing[wide]) <= set(thing[lot]) for lot in lots for wide in lots if set(lot) <= set(wide)
    )


def has_haven_by_words(base, width):
    """Whether there is a haven, by trying all parts for all lots."""
    lots = lots_by_words(base.many, width + 1)
    choices = [parts_by_words(base, lot) for lot in lots]
    return any(is_haven_by_words(base, width, dict(zip(lots, parts))) for parts in itertools.product(*choices))


def origins_by_words(base):
    found = []
    for place in range(base.many):
        own = [number for number, tie in enumerate(base.ties) if place in tie]
        lots = [lot for size in range(0, len(own) + 1, 2) for lot in itertools.combinations(own, size)]
        found.extend((place, lot) for lot in sorted(lots))
    return found


def twisted_by_words(base, twists):
    places = origins_by_words(base)
    ties = set()
    for number, (u, v) in enumerate(base.ties):
        for one, (begin, s) in enumerate(places):
            for other, (end, t) in enumerate(places):
                if (begin, end) == (u, v):
                    in_just_one = len({number} & set(s)) + len({number} & set(t)) == 1
                    if in_just_one is (number in twists):
                        ties |= {(0, one, other), (0, other, one)}
    return Web(len(places), tuple(place for place, _ in places), tuple(sorted(ties)))
