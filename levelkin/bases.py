"""Bases, and what shows how wide they are: bags and havens. (6.1, 6.2)

Sets of places stand as bits here: bit p is set if place p is among them.
"""

from levelkin.errors import BadBase, NoNumber
from levelkin.judging import is_below, is_lot, is_number

MOST_PLACES = 8
MOST_AT_ONE = 6
MOST_WIDTH = 8


class Base:
    """Some places, and ties (a, b) by which they all hang together."""

    def __init__(self, many, ties):
        if not is_number(many) or not 1 <= many <= MOST_PLACES:
            raise BadBase("many")
        if not isinstance(ties, tuple):
            raise BadBase("ties")
        wrong = first_wrong(many, ties)
        if wrong is not None:
            raise BadBase(wrong)
        if not hang_together(many, ties) or most_at_one(many, ties) > MOST_AT_ONE:
            raise BadBase("ties")
        self.many = many
        self.ties = ties

    def __eq__(self, other):
        return isinstance(other, Base) and self.many == other.many and self.ties == other.ties


def is_pair(many, thing):
    """Whether a thing is a pair of numbers below many, the lesser one ahead."""
    if not isinstance(thing, tuple) or len(thing) != 2:
        return False
    return is_below(many, thing[0]) and is_below(many, thing[1]) and thing[0] < thing[1]


def first_wrong(many, pairs):
    """The number of the first of the things that is no such pair, or not greater than the one ahead; None if none."""
    for at, pair in enumerate(pairs):
        if not is_pair(many, pair) or (at > 0 and pair <= pairs[at - 1]):
            return at
    return None


def hang_together(many, pairs):
    """Whether all numbers below many hang together by the pairs."""
    near = {}
    for one, other in pairs:
        near.setdefault(one, []).append(other)
        near.setdefault(other, []).append(one)
    found = {0: True}
    left = [0]
    while left:
        for other in near.get(left.pop(), []):
            if other not in found:
                found[other] = True
                left.append(other)
    return len(found) == many


def most_at_one(many, ties):
    """How many ties are at one place, at most."""
    return max([len([tie for tie in ties if place in tie]) for place in range(many)])


def lot_of(bits):
    """The lot of the places that are set."""
    return tuple([place for place in range(MOST_PLACES) if bits >> place & 1])


def bits_of(lot):
    """The bits of the places of a lot."""
    return sum([1 << place for place in lot])


def less(bits, others):
    """The places that are among these and not among the others."""
    return (bits | others) ^ others


def neighbours(base):
    """For each place the bits of those to which ties lead from it."""
    near = [0] * base.many
    for one, other in base.ties:
        near[one] = near[one] | 1 << other
        near[other] = near[other] | 1 << one
    return near


def around(near, bits):
    """The places that are joined with some of these, and are none of them."""
    found = 0
    for place in lot_of(bits):
        found = found | near[place]
    return less(found, bits)


def part_of(near, bits, within):
    """All places that hang together with these by ties between places within."""
    found = bits
    more = around(near, found) & within
    while more:
        found = found | more
        more = around(near, found) & within
    return found


def parts_of(near, left):
    """The parts of what is left of a base that no tie joins with one another."""
    parts = []
    while left:
        part = part_of(near, 1 << lot_of(left)[0], left)
        parts.append(part)
        left = less(left, part)
    return parts


def beyond(near, gone, place):
    """The places that are not gone, and to which a way leads from a place through such as are gone."""
    return around(near, part_of(near, 1 << place, gone))


def leaving(near, width):
    """An order in which all places go, such that none has more places beyond than the width when it goes; or None."""
    went = {0: 0}
    left = [0]
    while left:
        gone = left.pop()
        for place in range(len(near)):
            after = gone | 1 << place
            if after not in went and len(lot_of(beyond(near, gone, place))) <= width:
                went[after] = place
                left.append(after)
    gone = (1 << len(near)) - 1
    if gone not in went:
        return None
    order = []
    while gone:
        order.insert(0, went[gone])
        gone = less(gone, 1 << order[0])
    return order


def check_width(width):
    """Raises the error for what is no width that is let."""
    if not is_below(MOST_WIDTH + 1, width):
        raise NoNumber()


def bags(base, width):
    """Bags of at most this width, or None if there are none.

    Each place has a bag, of it and those beyond it when it goes, linked with the bag of the next one of these to go.
    """
    check_width(width)
    near = neighbours(base)
    order = leaving(near, width)
    if order is None:
        return None
    lots = []
    links = []
    gone = 0
    for at, place in enumerate(order):
        others = beyond(near, gone, place)
        lots.append(lot_of(others | 1 << place))
        if others:
            links.append((at, min([order.index(other) for other in lot_of(others)])))
        gone = gone | 1 << place
    return tuple(lots), tuple(links)


def are_links(many, thing):
    """Whether a thing is an ascending tuple of pairs, one fewer than many, by which so many bags hang together."""
    if not isinstance(thing, tuple) or len(thing) != many - 1:
        return False
    return first_wrong(many, thing) is None and hang_together(many, thing)


def hold_place(lots, links, place):
    """Whether a place is in a bag, and those that it is in hang together by links between them."""
    holding = [place in lot for lot in lots]
    inner = [link for link in links if holding[link[0]] and holding[link[1]]]
    # Links make no ring: so bags hang together by them if there is one fewer than bags.
    return holding.count(True) == len(inner) + 1


def is_bags(base, width, thing):
    """Whether a thing is bags of the base of at most this width."""
    check_width(width)
    if not isinstance(thing, tuple) or len(thing) != 2:
        return False
    lots, links = thing
    if not isinstance(lots, tuple) or not lots:
        return False
    if not all([is_lot(base.many, lot) and len(lot) <= width + 1 for lot in lots]):
        return False
    if not are_links(len(lots), links):
        return False
    if not all([any([one in lot and other in lot for lot in lots]) for one, other in base.ties]):
        return False
    return all([hold_place(lots, links, place) for place in range(base.many)])


def width(base):
    """The least width of all bags of the base."""
    near = neighbours(base)
    return min([most for most in range(base.many) if leaving(near, most) is not None])


def lots_of_most(many, most):
    """The bits of all lots of at most so many of the places."""
    return [bits for bits in range(1 << many) if len(lot_of(bits)) <= most]


def is_led(told, bits, part):
    """Whether a part may be told to a lot, by what may be told to those that have one place more or less."""
    for place in range(MOST_PLACES):
        other = bits ^ 1 << place
        if other in told:
            # Of two lots, the one within the other, the greater one has the lesser part.
            if other < bits and not any([less(part, wider) == 0 for wider in told[other]]):
                return False
            if other > bits and not any([less(inner, part) == 0 for inner in told[other]]):
                return False
    return True


def many_parts(told):
    """How many parts may be told to all lots together."""
    return sum([len(parts) for parts in told.values()])


def narrowed(told):
    """What may be told to each lot, less the parts beside which nothing may be told to another one."""
    left = told
    many = None
    while many != many_parts(left):
        many = many_parts(left)
        left = {bits: [part for part in parts if is_led(left, bits, part)] for bits, parts in left.items()}
    return left


def settled(told):
    """A part for each lot, out of those that may be told to it, such that they lie within one another; or None."""
    left = narrowed(told)
    unsettled = [bits for bits, parts in left.items() if len(parts) != 1]
    if not unsettled:
        return {bits: parts[0] for bits, parts in left.items()}
    for part in left[unsettled[0]]:
        found = settled({**left, unsettled[0]: [part]})
        if found is not None:
            return found
    return None


def haven(base, width):
    """A haven of the base against the width, or None if there is none."""
    check_width(width)
    near = neighbours(base)
    if leaving(near, width) is not None:
        return None
    whole = (1 << base.many) - 1
    told = settled({bits: parts_of(near, less(whole, bits)) for bits in lots_of_most(base.many, width + 1)})
    return {lot_of(bits): lot_of(part) for bits, part in told.items()}


def is_haven(base, width, thing):
    """Whether a thing is a haven of the base against the width."""
    check_width(width)
    if not isinstance(thing, dict):
        return False
    near = neighbours(base)
    whole = (1 << base.many) - 1
    lots = lots_of_most(base.many, width + 1)
    if len(thing) != len(lots) or not all([lot_of(bits) in thing for bits in lots]):
        return False
    told = {}
    for bits in lots:
        part = thing[lot_of(bits)]
        if not is_lot(base.many, part) or bits_of(part) not in parts_of(near, less(whole, bits)):
            return False
        told[bits] = [bits_of(part)]
    return all([is_led(told, bits, parts[0]) for bits, parts in told.items()])
