"""Sayings that part two webs, and sayings that mark colours. (3.3)"""

from levelkin.colours import charts_of, check_level, check_webs, history
from levelkin.errors import NoNumber
from levelkin.judging import is_below
from levelkin.sayings import Page, free, holds, is_saying, line_by, names, plain


class Past:
    """The colours of all rounds, and by what those that part from one another in a round differ.

    The KIN of a colour are those that were one with it in the round ahead; in round 0 those of rows of one length.
    """

    def __init__(self, webs, level):
        self.level = level
        self.looks, self.charts = charts_of(webs, level)
        self.told = history(self.charts)
        self.examples = []
        self.families = []
        for turn in range(len(self.told)):
            self.examples.append(self.examples_in(turn))
            self.families.append(self.families_in(turn))
        self.known = {}
        self.tests = {}

    def examples_in(self, turn):
        """For each number of a round a row that has it: the number of its web, and at which it stands there."""
        found = {}
        for web, numbers in enumerate(self.told[turn]):
            for at, number in enumerate(numbers):
                if number not in found:
                    found[number] = (web, at)
        return found

    def families_in(self, turn):
        """For each number of the round ahead, or each length of rows, the numbers of a round that come of it."""
        found = {}
        for number in sorted(list(self.examples[turn])):
            found.setdefault(self.parent(turn, number), []).append(number)
        return found

    def length(self, turn, number):
        """How many places the rows of this number have."""
        web, at = self.examples[turn][number]
        return len(self.charts[web].rows[at])

    def parent(self, turn, number):
        """The number that the rows of this number had in the round ahead; in round 0 their length."""
        if turn == 0:
            return self.length(turn, number)
        web, at = self.examples[turn][number]
        return self.told[turn - 1][web][at]

    def kin(self, turn, number):
        """The other numbers of the round that come of the same."""
        return [other for other in self.families[turn][self.parent(turn, number)] if other != number]

    def facts(self, turn, number):
        """By what rows of this number differ from kin: a dict of how often each thing is there.

        In round 0 these are the facts of their look, behind it what they see, in numbers of the round ahead.
        """
        if (turn, number) not in self.known:
            web, at = self.examples[turn][number]
            chart = self.charts[web]
            if turn == 0:
                self.known[(turn, number)] = facts_of(self.looks[chart.looks[at]])
            else:
                self.known[(turn, number)] = counted(chart.sights(self.told[turn - 1][web], at))
        return self.known[(turn, number)]

    def tests_of(self, turn, number):
        """What is true of rows of this number, and of those of none of its kin."""
        if (turn, number) not in self.tests:
            others = [self.facts(turn, other) for other in self.kin(turn, number)]
            self.tests[(turn, number)] = tests_against(self.facts(turn, number), others)
        return self.tests[(turn, number)]

    def looks_beside(self, turn, number, sight):
        """The facts of the look that is seen, and of other looks that are seen with the same colours by kin."""
        beside = {}
        for other in [number, *self.kin(turn, number)]:
            for seen in self.facts(turn, other):
                if seen[1:] == sight[1:] and seen[0] != sight[0]:
                    beside[seen[0]] = True
        return facts_of(self.looks[sight[0]]), [facts_of(self.looks[look]) for look in sorted(list(beside))]

    def colours_in(self, turn, number, order, sight):
        """The colours of the round ahead of which a sight of rows of this number tells, each with an order for it.

        An order tells the names of a row's items, then that of the place that is put to it.
        """
        if self.length(turn, number) < self.level:
            return [(sight[1], order)]
        return [(colour, exchanged_names(order, at)) for at, colour in enumerate(sight[1:])]

    def needed(self, turn, number, order):
        """The colours of the round ahead, each with an order, that telling of this one needs."""
        keys = [(self.parent(turn, number), order)]
        for _, _, sight in self.tests_of(turn, number):
            keys.extend(self.colours_in(turn, number, order, sight))
        return keys


def exchanged_names(order, at):
    """The order in which the name of item at and the last one are exchanged."""
    return (*order[:at], order[-1], *order[at + 1:-1], order[at])


def facts_of(look):
    """The lines that are true of a row of this look, its items named 0, 1, .., as a dict."""
    hues, same, ties = look
    lines = [("hue", at, hue) for at, hue in enumerate(hues)]
    lines.extend([("same", i, j) for i, j in same])
    lines.extend([("tie", kind, i, j) for kind, i, j in ties])
    return {line: 1 for line in lines}


def counted(things):
    """How often each of the things is there."""
    counts = {}
    for thing in things:
        counts[thing] = counts.get(thing, 0) + 1
    return counts


def tests_against(facts, others):
    """Tests (flag, least, thing): whether a thing is there so often. The facts pass all, none of the others does."""
    tests = []
    left = others
    while left:
        flag, least, thing = test_between(facts, left[0])
        tests.append((flag, least, thing))
        left = [other for other in left if (other.get(thing, 0) >= least) == flag]
    return tests


def test_between(facts, other):
    """A test that the facts pass and the other ones, which are unlike, do not."""
    for thing in facts:
        if facts[thing] > other.get(thing, 0):
            return True, facts[thing], thing
    unlike = [thing for thing in other if other[thing] > facts.get(thing, 0)]
    return False, other[unlike[0]], unlike[0]


def put_tests(page, tests, order):
    """The numbers of the lines that say of a look that it passes the tests, by the names of an order."""
    told = []
    for flag, _, line in tests:
        number = page.put(line_by(line, order))
        told.append(number if flag else page.put_not(number))
    return told


def put_look(page, past, key):
    """The number of the line that says of a row that it has a colour in round 0; key is the colour and an order."""
    number, order = key
    return put_both(page, put_tests(page, past.tests_of(0, number), order))


def put_colour(page, past, turn, key, told):
    """The number of the line that says of a row that it has a colour in a round from 1 on.

    Told has the numbers of the lines for the round ahead.
    """
    number, order = key
    place = order[past.length(turn, number)]
    parts = [told[(past.parent(turn, number), order)]]
    for flag, least, sight in past.tests_of(turn, number):
        inner = [told[other] for other in past.colours_in(turn, number, order, sight)]
        look, others = past.looks_beside(turn, number, sight)
        inner.extend(put_tests(page, tests_against(look, others), order))
        line = page.put(("many", place, least, put_both(page, inner)))
        parts.append(line if flag else page.put_not(line))
    return put_both(page, parts)


def put_both(page, told):
    """The number of a line that is true if all these are: one of them, where it is enough."""
    true = page.put_all([])
    unlike = [number for number in sorted(set(told)) if number != true]
    return unlike[0] if len(unlike) == 1 else page.put_all(unlike)


def saying_of(past, turn, number):
    """A saying that is true of just those rows, of as many places, that have a number in a round."""
    wanted = [(number, tuple(range(past.level + 1)))]
    stages = []
    for at in range(turn, 0, -1):
        stages.append(wanted)
        wanted = sorted({key for colour, order in wanted for key in past.needed(at, colour, order)})
    page = Page()
    told = {key: put_look(page, past, key) for key in wanted}
    for at in range(1, turn + 1):
        told = {key: put_colour(page, past, at, key, told) for key in stages.pop()}
    last = told[(number, tuple(range(past.level + 1)))]
    return plain(tuple(page.lines[:last + 1]))


def parting(one, other, level):
    """A saying of the level that is true of one and not of other, of the least depth, or None."""
    check_level([one, other], level)
    past = Past([one, other], level)
    for turn, (mine, yours) in enumerate(past.told):
        if mine[0] != yours[0]:
            return saying_of(past, turn, mine[0])
    return None


def is_parting(one, other, level, thing):
    """Whether a thing is a saying of the level without free names that is true of one and not of other."""
    check_level([one, other], level)
    if not is_saying(thing) or free(thing):
        return False
    if not all([name <= level for name in names(thing)]):
        return False
    return holds(one, thing, {}) and not holds(other, thing, {})


def marks(webs, level, number):
    """A saying of the level that is true of just those rows to which colouring of the webs tells this number."""
    check_webs(webs)
    check_level(webs, level)
    past = Past(webs, level)
    if not is_below(len(past.examples[-1]), number):
        raise NoNumber()
    return saying_of(past, len(past.told) - 1, number)
