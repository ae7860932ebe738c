"""Colours that rows of at most k places get round by round. (2)"""

from levelkin.errors import NoLevel, NoWebs, TooMany
from levelkin.judging import is_level, is_row, is_whole
from levelkin.webs import Eye, Web

MOST_WEBS = 3
MOST_ROWS = 10000


class Chart:
    """The rows of one web at a level, and the numbers of looks.

    Rows stand shorter ones ahead, else ascending. So the rows that come of the one at number x
    if a place is put behind stand at many * x + 1, many * x + 2, .., in the order of these places.
    """

    def __init__(self, many, level, looks):
        self.many = many
        self.level = level
        self.rows = rows_of(many, level)
        # Rows of one place more than the level lets are looked at, too: so there are more looks than rows.
        self.looks = looks
        self.strides = strides_of(many, level)

    def number_of(self, row):
        """The number at which what surely is a row stands."""
        at = 0
        for place in row:
            at = self.many * at + 1 + place
        return at

    def behind(self, at, place):
        """The number of the row with the place behind it; only its look is kept if it is too long for the level."""
        return self.many * at + 1 + place

    def exchanged(self, at, place):
        """The numbers of the rows with the place for item 0, item 1, .. of a row of the level's full length."""
        return [at + (place - own) * stride for own, stride in zip(self.rows[at], self.strides)]

    def sights(self, numbers, at):
        """What the row at this number sees at each place, by these numbers of all rows: tuples (look, colour, ..)."""
        row = self.rows[at]
        first = self.many * at + 1
        looks = self.looks[first:first + self.many]
        if len(row) < self.level:
            columns = [numbers[first:first + self.many]]
        else:
            columns = []
            for place, stride in zip(row, self.strides):
                start = at - place * stride
                columns.append(numbers[start:start + self.many * stride:stride])
        return list(zip(looks, *columns))

    def seen(self, numbers, at):
        """What the row at this number sees, put in order."""
        return tuple(sorted(self.sights(numbers, at)))


def rows_of(many, most):
    """All rows of at most so many of the places, shorter ones ahead, else ascending."""
    rows = [()]
    longest = [()]
    for _ in range(most):
        longest = [(*row, place) for row in longest for place in range(many)]
        rows.extend(longest)
    return rows


def strides_of(many, level):
    """For each item of a row of the level's full length, how far rows stand apart in which it is one more."""
    strides = [1]
    for _ in range(level - 1):
        strides.insert(0, strides[0] * many)
    return strides


def many_rows(many, level):
    """How many rows of the level a web with so many places has."""
    rows = longest = 1
    for _ in range(level):
        longest = longest * many
        rows = rows + longest
    return rows


def check_webs(webs):
    """Raises the error for what is no list or tuple of some webs."""
    if not isinstance(webs, (list, tuple)) or not 1 <= len(webs) <= MOST_WEBS:
        raise NoWebs()
    if not all([isinstance(web, Web) for web in webs]):
        raise NoWebs()


def check_level(webs, level):
    """Raises the errors for what is no level, and for webs with too many rows of it together."""
    if not is_level(level):
        raise NoLevel()
    if sum([many_rows(web.many, level) for web in webs]) > MOST_ROWS:
        raise TooMany(MOST_ROWS)


def check_pairs(webs, level):
    """Raises the errors for what is no level, and for webs of which any two have too many rows of it together.

    A web alone is no two: it may have as many rows as it likes.
    """
    if not is_level(level):
        raise NoLevel()
    largest = sorted([many_rows(web.many, level) for web in webs])[-2:]
    if len(largest) == 2 and sum(largest) > MOST_ROWS:
        raise TooMany(MOST_ROWS)


def numbered(lists):
    """All unlike items of the lists, ascending, and for each list the numbers of its items among them."""
    unlike = sorted({item for items in lists for item in items})
    at = {item: number for number, item in enumerate(unlike)}
    return unlike, [[at[item] for item in items] for items in lists]


def charts_of(webs, level):
    """All unlike looks of the webs' rows, ascending, and a chart of each web with their numbers."""
    looks = []
    for web in webs:
        eye = Eye(web)
        looks.append([eye.look_at(row) for row in rows_of(web.many, level + 1)])
    unlike, numbers = numbered(looks)
    return unlike, [Chart(web.many, level, own) for web, own in zip(webs, numbers)]


def first_numbers(charts):
    """For each chart the numbers of its rows in round 0."""
    _, numbers = numbered([chart.looks[:len(chart.rows)] for chart in charts])
    return numbers


def next_numbers(charts, numbers):
    """For each chart the numbers of its rows in the round behind the one with these numbers.

    They are these very numbers exactly if there are as many of them: the number of the round ahead
    comes first in what is put in order, so numbers only move if one is split.
    """
    colours = []
    for chart, own in zip(charts, numbers):
        colours.append([(own[at], chart.looks[at], chart.seen(own, at)) for at in range(len(own))])
    _, after = numbered(colours)
    return after


def history(charts):
    """For each round, to the least one behind which there are no more numbers, those of the rows of each chart."""
    told = [first_numbers(charts)]
    after = next_numbers(charts, told[-1])
    while after != told[-1]:
        told.append(after)
        after = next_numbers(charts, after)
    return told


def sights_numbered(charts, numbers):
    """For each chart, for each of its rows, the list of what it sees at each place, each such thing as a number."""
    lists = []
    for chart, own in zip(charts, numbers):
        lists.append([sight for at in range(len(own)) for sight in chart.sights(own, at)])
    _, told = numbered(lists)
    rows = []
    for chart, own in zip(charts, told):
        rows.append([own[start:start + chart.many] for start in range(0, len(own), chart.many)])
    return rows


def colouring(webs, level):
    """The least round behind which colours do not split, and for each web the dict from rows to numbers there."""
    check_webs(webs)
    check_level(webs, level)
    _, charts = charts_of(webs, level)
    told = history(charts)
    return len(told) - 1, [dict(zip(chart.rows, own)) for chart, own in zip(charts, told[-1])]


def is_told(many, level, thing):
    """Whether a thing is a dict from just the rows of a web with so many places to integers."""
    if not isinstance(thing, dict) or len(thing) != many_rows(many, level):
        return False
    return all([is_row(many, level, row) and is_whole(number) for row, number in thing.items()])


def is_colouring(webs, level, thing):
    """Whether a thing is a colouring of the webs at the level, closed or not."""
    if not isinstance(thing, list) or len(thing) != len(webs):
        return False
    return all([is_told(web.many, level, told) for web, told in zip(webs, thing)])


def is_closed(webs, level, thing):
    """Whether a thing is a colouring whose rows of one integer have one look and see alike."""
    check_webs(webs)
    check_level(webs, level)
    if not is_colouring(webs, level, thing):
        return False
    _, charts = charts_of(webs, level)
    _, numbers = numbered([[told[row] for row in chart.rows] for chart, told in zip(charts, thing)])
    return next_numbers(charts, numbers) == numbers


def alike(one, other, level):
    """Whether the two webs cannot be told apart at the level."""
    _, told = colouring([one, other], level)
    return told[0][()] == told[1][()]


def portrait(web, level):
    """What colouring tells of a web alone: for each number (how many rows, their look, what they see)."""
    check_level([web], level)
    looks, charts = charts_of([web], level)
    chart = charts[0]
    numbers = history(charts)[-1][0]
    having = {}
    for at, number in enumerate(numbers):
        having.setdefault(number, []).append(at)
    told = []
    for number in sorted(list(having)):
        at = having[number][0]
        sights = [(looks[sight[0]], sight[1:]) for sight in chart.seen(numbers, at)]
        told.append((len(having[number]), looks[chart.looks[at]], tuple(sights)))
    return tuple(told)


def kinds_of(webs, level):
    """For each of any many webs a number: webs that are alike at the level have one, others unlike ones."""
    check_pairs(webs, level)
    if len(webs) < 2:
        return [0] * len(webs)
    portraits = [portrait(web, level) for web in webs]
    return [portraits.index(own) for own in portraits]
