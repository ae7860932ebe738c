"""Sayings: what can be told of a web with four names and with counts. (3.1, 3.2, 3.4)"""

from levelkin.errors import NoName, NoOrder, NoPlaces, NoSaying
from levelkin.judging import is_below, is_order
from levelkin.webs import HUES, KINDS, MOST_PLACES

NAMES = 4


def fits_bounds(parts, bounds):
    """Whether there is a part for each bound, a number below it."""
    return len(parts) == len(bounds) and all([is_below(bound, part) for bound, part in zip(bounds, parts)])


def is_line(at, thing):
    """Whether a thing is a line that stands behind so many others."""
    if not isinstance(thing, tuple) or len(thing) < 2 or not isinstance(thing[0], str):
        return False
    kind = thing[0]
    parts = thing[1:]
    if kind == "hue":
        return fits_bounds(parts, (NAMES, HUES))
    if kind == "same":
        return fits_bounds(parts, (NAMES, NAMES))
    if kind == "tie":
        return fits_bounds(parts, (KINDS, NAMES, NAMES))
    if kind == "not":
        return fits_bounds(parts, (at,))
    if kind == "many":
        return fits_bounds(parts, (NAMES, MOST_PLACES + 1, at)) and parts[1] > 0
    if kind != "all" and kind != "some":
        return False
    return len(parts) == 1 and isinstance(parts[0], tuple) and all([is_below(at, told) for told in parts[0]])


def is_saying(thing):
    """Whether a thing is a saying: a tuple of lines, one at least, that tell only what stands ahead of them."""
    if not isinstance(thing, tuple) or not thing:
        return False
    return all([is_line(at, line) for at, line in enumerate(thing)])


def check_saying(thing):
    """Raises the error for what is no saying."""
    if not is_saying(thing):
        raise NoSaying()


def told_by(line):
    """The numbers of the lines that a line tells."""
    kind = line[0]
    if kind == "all" or kind == "some":
        return line[1]
    if kind == "not":
        return (line[1],)
    if kind == "many":
        return (line[3],)
    return ()


def names_in(line):
    """The names that stand in a line itself."""
    kind = line[0]
    if kind == "hue" or kind == "many":
        return (line[1],)
    if kind == "same":
        return line[1:]
    if kind == "tie":
        return line[2:]
    return ()


def reached(saying):
    """The numbers of the last line and of those that it tells, itself or through others, ascending."""
    last = len(saying) - 1
    found = {last: True}
    for at in range(last, -1, -1):
        if at in found:
            for told in told_by(saying[at]):
                found[told] = True
    return sorted(list(found))


def free(saying):
    """The lot of the names that are free in the last line."""
    check_saying(saying)
    lots = []
    for line in saying:
        told = sorted({name for at in told_by(line) for name in lots[at]})
        if line[0] == "many":
            lots.append(tuple([name for name in told if name != line[1]]))
        else:
            lots.append(tuple(sorted(set([*told, *names_in(line)]))))
    return lots[-1]


def names(saying):
    """The lot of all names that stand in the last line, or in lines that it tells, itself or through others."""
    check_saying(saying)
    return tuple(sorted({name for at in reached(saying) for name in names_in(saying[at])}))


def depth(saying):
    """How many manys stand within one another in the last line, at most."""
    check_saying(saying)
    depths = []
    for line in saying:
        deepest = max([0] + [depths[at] for at in told_by(line)])
        depths.append(deepest + 1 if line[0] == "many" else deepest)
    return depths[-1]


class Truth:
    """Tells where lines are true of one web.

    A table is a pair (axes, cells). Axes are the names other than 0 on which it depends, ascending. There is a
    cell for each way in which these name places, ascending: a number that has bit p exactly if the line is true
    with 0 naming place p as well.
    """

    def __init__(self, web):
        many = web.many
        self.many = many
        self.whole = (1 << many) - 1
        self.sizes = [1, many, many * many, many * many * many]
        self.hues = [0] * HUES
        for place, hue in enumerate(web.hues):
            self.hues[hue] = self.hues[hue] | 1 << place
        self.selves = [1 << place for place in range(many)]
        self.ends = [[0] * many for _ in range(KINDS)]
        self.begins = [[0] * many for _ in range(KINDS)]
        for kind, begin, end in web.ties:
            self.ends[kind][begin] = self.ends[kind][begin] | 1 << end
            self.begins[kind][end] = self.begins[kind][end] | 1 << begin

    def cells_of(self, bits):
        """For each place a cell: the whole one if the place is among the bits, else the empty one."""
        return [self.whole if bits >> place & 1 else 0 for place in range(self.many)]

    def of_one(self, name, bits):
        """The table of what is true if the name names a place among the bits."""
        if name == 0:
            return (), [bits]
        return (name,), self.cells_of(bits)

    def of_two(self, i, j, ends, begins):
        """The table of what leads from the place named i to that named j.

        ends has for each place the bits of those to which it leads from there, begins of those from which.
        """
        if i == j:
            return self.of_one(i, sum([bits & own for bits, own in zip(ends, self.selves)]))
        if j == 0:
            return (i,), ends
        if i == 0:
            return (j,), begins
        rows = ends if i < j else begins
        return (min(i, j), max(i, j)), [cell for bits in rows for cell in self.cells_of(bits)]

    def spread(self, table, axes):
        """The cells of a table if it stands over more axes."""
        own, cells = table
        for name in axes:
            if name not in own:
                block = self.sizes[len([later for later in own if later > name])]
                wider = []
                for start in range(0, len(cells), block):
                    wider.extend(cells[start:start + block] * self.many)
                own = tuple(sorted([*own, name]))
                cells = wider
        return cells

    def joined(self, is_all, tables):
        """The table of what is true if all, or some, of the tables are."""
        axes = tuple(sorted({name for own, _ in tables for name in own}))
        cells = [self.whole if is_all else 0] * self.sizes[len(axes)]
        for table in tables:
            wider = self.spread(table, axes)
            if is_all:
                cells = [bits & more for bits, more in zip(cells, wider)]
            else:
                cells = [bits | more for bits, more in zip(cells, wider)]
        return axes, cells

    def counted(self, name, least, table):
        """The table of what is true if the table is, for so many places that the name names."""
        axes, cells = table
        if name == 0:
            return axes, [self.whole if ones(bits) >= least else 0 for bits in cells]
        if name not in axes:
            return axes, cells if least <= self.many else [0] * len(cells)
        at = axes.index(name)
        block = self.sizes[len(axes) - at - 1]
        out = []
        for start in range(0, len(cells), block * self.many):
            for first in range(start, start + block):
                column = cells[first:start + block * self.many:block]
                out.append(where_many(least, column, self.whole))
        return axes[:at] + axes[at + 1:], out

    def table(self, line, tables):
        """The table of a line, those of the lines that it tells being known by their numbers."""
        kind = line[0]
        if kind == "hue":
            return self.of_one(line[1], self.hues[line[2]])
        if kind == "same":
            return self.of_two(line[1], line[2], self.selves, self.selves)
        if kind == "tie":
            return self.of_two(line[2], line[3], self.ends[line[1]], self.begins[line[1]])
        if kind == "not":
            axes, cells = tables[line[1]]
            return axes, [self.whole ^ bits for bits in cells]
        if kind == "many":
            return self.counted(line[1], line[2], tables[line[3]])
        return self.joined(kind == "all", [tables[at] for at in sorted(set(line[1]))])

    def of_saying(self, saying):
        """The table of the last line."""
        told = reached(saying)
        last_use = {}
        for at in told:
            for inner in told_by(saying[at]):
                last_use[inner] = at
        tables = {}
        for at in told:
            tables[at] = self.table(saying[at], tables)
            for inner in told_by(saying[at]):
                # Tables of webs with many places are large: thousands of them would fill the memory.
                if last_use[inner] == at:
                    tables.pop(inner, None)
        return tables[told[-1]]

    def is_true(self, table, places):
        """Whether a table says true of these places."""
        axes, cells = table
        at = 0
        for name in axes:
            at = at * self.many + places[name]
        return cells[at] >> places.get(0, 0) & 1 == 1


def ones(bits):
    """How many bits are set."""
    text = f"{bits:b}"
    return text.count("1")


def where_many(least, column, whole):
    """The bits that are set in at least so many numbers of the column."""
    counts = []
    for bits in column:
        carried = bits
        for at, count in enumerate(list(counts)):
            counts[at] = count ^ carried
            carried = count & carried
        if carried:
            counts.append(carried)
    # counts hold the figures of all counts, from the ones up: so they are held against those of least.
    enough = whole
    for at in range(max(len(counts), least.bit_length())):
        count = counts[at] if at < len(counts) else 0
        enough = count & enough if least >> at & 1 else count | enough
    return enough


def is_naming(many, needed, thing):
    """Whether a thing is a dict from names to places, with all those that are needed."""
    if not isinstance(thing, dict):
        return False
    if not all([is_below(NAMES, name) and is_below(many, place) for name, place in thing.items()]):
        return False
    return all([name in thing for name in needed])


def holds(web, saying, places):
    """Whether a saying is true of a web and these places."""
    needed = free(saying)
    if not is_naming(web.many, needed, places):
        raise NoPlaces()
    truth = Truth(web)
    return truth.is_true(truth.of_saying(saying), places)


def many_that(web, saying, name, places):
    """Of how many places a saying is true if the name names them."""
    needed = free(saying)
    if not is_below(NAMES, name):
        raise NoName()
    if not is_naming(web.many, [other for other in needed if other != name], places):
        raise NoPlaces()
    truth = Truth(web)
    table = truth.of_saying(saying)
    return len([place for place in range(web.many) if truth.is_true(table, {**places, name: place})])


def line_by(line, order):
    """The line in which each name i that stands in it itself is called order[i]."""
    kind = line[0]
    if kind == "hue":
        return kind, order[line[1]], line[2]
    if kind == "same":
        return kind, order[line[1]], order[line[2]]
    if kind == "tie":
        return kind, line[1], order[line[2]], order[line[3]]
    if kind == "many":
        return kind, order[line[1]], line[2], line[3]
    return line


def turned(saying, order):
    """The saying in which each name i is called order[i]."""
    check_saying(saying)
    if not is_order(NAMES, order):
        raise NoOrder()
    return tuple([line_by(line, order) for line in saying])


class Page:
    """Lines that are put one behind another, none of them twice."""

    def __init__(self):
        self.lines = []
        self.numbers = {}

    def put(self, line):
        """The number of a line, which is written only if it does not stand there."""
        if line not in self.numbers:
            self.numbers[line] = len(self.lines)
            self.lines.append(line)
        return self.numbers[line]

    def put_not(self, number):
        """The number of the line that is true if the one at this number is not."""
        return self.put(("not", number))

    def put_all(self, told):
        """The number of the line that is true if all these are."""
        return self.put(("all", tuple(told)))


def put_plain(page, line, at):
    """Puts a line plainly, at leading from the old numbers of those that it tells to new ones; its new number."""
    kind = line[0]
    if kind == "same" and line[1] == line[2]:
        return page.put_all([])
    if kind == "some":
        return page.put_not(page.put_all([page.put_not(at[told]) for told in line[1]]))
    if kind == "all":
        return page.put_all([at[told] for told in line[1]])
    if kind == "not":
        return page.put_not(at[line[1]])
    if kind == "many":
        return page.put((*line[:3], at[line[3]]))
    return page.put(line)


def plain(saying):
    """A saying that says the same without "some", "same" of one name with itself, and lines that it does not need."""
    check_saying(saying)
    page = Page()
    at = {}
    for number in reached(saying):
        at[number] = put_plain(page, saying[number], at)
    return tuple(page.lines)
