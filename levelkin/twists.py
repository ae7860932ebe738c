"""Twisted webs: one for each lot of ties of a base. (6.3, 6.4)"""

from levelkin.errors import NoLevel, NoPlace, NoTie, NoTwists, TooMany
from levelkin.games import hold, plan
from levelkin.judging import is_below, is_level, is_lot
from levelkin.webs import MOST_PLACES, Web


def ties_at(base, place):
    """The numbers of the ties of a place of the base."""
    return [number for number, tie in enumerate(base.ties) if place in tie]


def even_lots(numbers):
    """All lots of an even number of these, ascending."""
    lots = [()]
    for number in numbers:
        lots = lots + [(*lot, number) for lot in lots]
    return sorted([lot for lot in lots if len(lot) & 1 == 0])


def origins(base):
    """The pairs (v, S) of all places of the base's twisted webs, if they are not too many."""
    pairs = [(place, lot) for place in range(base.many) for lot in even_lots(ties_at(base, place))]
    if len(pairs) > MOST_PLACES:
        raise TooMany(MOST_PLACES)
    return pairs


def check_twists(base, twists):
    """Raises the error for what is no lot of numbers of the base's ties."""
    if not is_lot(len(base.ties), twists):
        raise NoTwists()


def twisted(base, twists):
    """The web over the base in which these ties are twisted."""
    check_twists(base, twists)
    pairs = origins(base)
    ties = []
    for number, (one, other) in enumerate(base.ties):
        for at, (begin, lot) in enumerate(pairs):
            for to, (end, answer) in enumerate(pairs):
                if begin == one and end == other:
                    is_in_one = (number in lot) != (number in answer)
                    if is_in_one == (number in twists):
                        ties.extend([(0, at, to), (0, to, at)])
    return Web(len(pairs), tuple([place for place, _ in pairs]), tuple(sorted(ties)))


def origin(base, place):
    """The pair (v, S) of a place of the base's twisted webs."""
    pairs = origins(base)
    if not is_below(len(pairs), place):
        raise NoPlace()
    return pairs[place]


def exchanged(one, other):
    """The lot of the numbers that are in just one of two lots."""
    return tuple(sorted([number for number in (*one, *other) if (number in one) != (number in other)]))


def ties_back(base):
    """For each place but 0 its number, that of a tie, and the place to which it leads, one behind another.

    The way back from a place to 0 leads only over places that stand ahead of it.
    """
    found = []
    reached = [0]
    while len(reached) < base.many:
        number, place, back = next_tie(base, reached)
        found.append((place, number, back))
        reached.append(place)
    return found


def next_tie(base, reached):
    """The number of the first tie from a place that is reached to one that is not, this one, and the reached one."""
    for number, (one, other) in enumerate(base.ties):
        if one in reached and other not in reached:
            return number, other, one
        if other in reached and one not in reached:
            return number, one, other


def flips(base, twists, others):
    """For each place a lot of its ties, even ones, such that just ties that are twisted in one are in one of these.

    Each such tie is put to one of its places. Where a place has an odd lot then, a tie on the way back to place 0
    is put to both its places: that twists nothing, and leaves the odd one over to the place ahead.
    """
    lots = [()] * base.many
    for number in exchanged(twists, others):
        place = base.ties[number][0]
        lots[place] = exchanged(lots[place], (number,))
    for place, number, back in ties_back(base)[::-1]:
        if len(lots[place]) & 1:
            lots[place] = exchanged(lots[place], (number,))
            lots[back] = exchanged(lots[back], (number,))
    return lots


def shifted(base, twists, others):
    """An order by which the web with the one twists, renamed, is that with the others, or None if there is none."""
    check_twists(base, twists)
    check_twists(base, others)
    pairs = origins(base)
    if len(twists) & 1 != len(others) & 1:
        return None
    lots = flips(base, twists, others)
    at = {pair: number for number, pair in enumerate(pairs)}
    return tuple([at[(place, exchanged(lot, lots[place]))] for place, lot in pairs])


def twisted_pair(base, level):
    """The web without a twist and that with the first tie twisted, if all is let."""
    if not base.ties:
        raise NoTie()
    if not is_level(level):
        raise NoLevel()
    return twisted(base, ()), twisted(base, (0,))


def hold_of(base, level):
    """A hold of the web without a twist and of that with one, or None if there is none."""
    one, other = twisted_pair(base, level)
    return hold(one, other, level)


def plan_of(base, level):
    """A plan of the web without a twist and of that with one, or None if there is none."""
    one, other = twisted_pair(base, level)
    return plan(one, other, level)
