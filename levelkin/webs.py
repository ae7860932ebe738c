"""Webs: places with hues, and ties of a few kinds between them. (1)"""

from levelkin.errors import BadWeb, Full, NoOrder, NoRow
from levelkin.judging import is_below, is_number, is_order, is_row

MOST_PLACES = 40
MOST_TIES = 1600
HUES = 10
KINDS = 4
LONGEST_ROW = 4


class Web:
    """Some places, a hue for each of them, and ties (kind, begin, end)."""

    def __init__(self, many, hues, ties):
        if not is_number(many) or not 1 <= many <= MOST_PLACES:
            raise BadWeb("many")
        if not is_hues(many, hues):
            raise BadWeb("hues")
        if not isinstance(ties, tuple) or len(ties) > MOST_TIES:
            raise BadWeb("ties")
        for at, tie in enumerate(ties):
            if not is_tie(many, tie) or (at > 0 and tie <= ties[at - 1]):
                raise BadWeb(at)
        self.many = many
        self.hues = hues
        self.ties = ties

    def __eq__(self, other):
        return (isinstance(other, Web) and self.many == other.many
                and self.hues == other.hues and self.ties == other.ties)


def is_hues(many, thing):
    """Whether a thing is a tuple with a hue for each of so many places."""
    if not isinstance(thing, tuple) or len(thing) != many:
        return False
    return all([is_below(HUES, hue) for hue in thing])


def is_tie(many, thing):
    """Whether a thing is a triple (kind, begin, end) for so many places."""
    if not isinstance(thing, tuple) or len(thing) != 3:
        return False
    kind, begin, end = thing
    return is_below(KINDS, kind) and is_below(many, begin) and is_below(many, end)


def renamed(web, order):
    """The web in which each place p is called order[p]."""
    if not is_order(web.many, order):
        raise NoOrder()
    hues = [0] * web.many
    for place, hue in enumerate(web.hues):
        hues[order[place]] = hue
    ties = sorted([(kind, order[begin], order[end]) for kind, begin, end in web.ties])
    return Web(web.many, tuple(hues), tuple(ties))


def beside(one, other):
    """Both webs in one, the places of other called by so many more as the one has."""
    many = one.many + other.many
    moved = [(kind, begin + one.many, end + one.many) for kind, begin, end in other.ties]
    ties = sorted([*one.ties, *moved])
    if many > MOST_PLACES or len(ties) > MOST_TIES:
        raise Full()
    return Web(many, one.hues + other.hues, tuple(ties))


def look(web, row):
    """What is seen of a row: (hues, pairs at which one place stands, ties between its places)."""
    if not is_row(web.many, LONGEST_ROW, row):
        raise NoRow()
    return Eye(web).look_at(row)


class Eye:
    """Tells the looks of one web's rows, many of them one behind another."""

    def __init__(self, web):
        self.hues = web.hues
        self.kinds = {}
        for kind, begin, end in web.ties:
            self.kinds.setdefault((begin, end), []).append(kind)
        spots = range(LONGEST_ROW)
        # All looks share these triples: the looks of a web of many ties would fill the memory otherwise.
        self.triples = [[[(k, i, j) for k in range(KINDS)] for j in spots] for i in spots]

    def look_at(self, row):
        """The look of what surely is a row."""
        kinds = self.kinds
        triples = self.triples
        spots = range(len(row))
        same = [(i, j) for i in spots for j in range(i + 1, len(row)) if row[i] == row[j]]
        ties = [triples[i][j][kind] for i in spots for j in spots for kind in kinds.get((row[i], row[j]), ())]
        return tuple([self.hues[place] for place in row]), tuple(same), tuple(sorted(ties))
