"""A second way to colours, slow and straight from the words of the document. (1.3, 2)"""


def rows_by_words(web, most):
    rows = [()]
    for row in rows:
        if len(row) < most:
            rows.extend(row + (place,) for place in range(web.many))
    return rows


def look_by_words(web, row):
    at = range(len(row))
    hues = tuple(web.hues[place] for place in row)
    alike = tuple(sorted((i, j) for i in at for j in at if i < j and row[i] == row[j]))
    ties = tuple(sorted(
        (kind, i, j) for kind, begin, end in web.ties for i in at for j in at if (row[i], row[j]) == (begin, end)))
    return hues, alike, ties


def sees_by_words(web, level, colours, row):
    """The ascending list of what a row sees, colours being a dict from the web's rows."""
    seen = []
    for place in range(web.many):
        behind = row + (place,)
        if len(row) < level:
            told = (colours[behind],)
        else:
            told = tuple(colours[row[:i] + (place,) + row[i + 1:]] for i in range(level))
        seen.append((look_by_words(web, behind), told))
    return sorted(seen)


def numbered_by_words(tables):
    """For each dict from rows to colours the dict from rows to the numbers of these colours."""
    unlike = []
    for colour in sorted([colour for table in tables for colour in table.values()]):
        if not unlike or unlike[-1] != colour:
            unlike.append(colour)
    return [{row: unlike.index(colour) for row, colour in table.items()} for table in tables]


def how_many(tables):
    return len({number for table in tables for number in table.values()})


def rounds_by_words(webs, level, rounds):
    """A list, for each round, of the dicts from rows to numbers in this round."""
    told = [numbered_by_words([{row: look_by_words(web, row) for row in rows_by_words(web, level)} for web in webs])]
    for _ in range(rounds):
        told.append(numbered_by_words([
            {row: (table[row], sees_by_words(web, level, table, row)) for row in table}
            for web, table in zip(webs, told[-1])
        ]))
    return told


def colouring_by_words(webs, level):
    rounds = 1
    while True:
        told = rounds_by_words(webs, level, rounds)
        if how_many(told[-1]) == how_many(told[-2]):
            return rounds - 1, told[-2]
        rounds += 1


def whole_colours(webs, level, rounds):
    """For each web the dict from rows to whole colours in a round: no numbers stand in the place of any."""
    tables = [{row: look_by_words(web, row) for row in rows_by_words(web, level)} for web in webs]
    for _ in range(rounds):
        tables = [
            {row: (table[row], sees_by_words(web, level, table, row)) for row in table}
            for web, table in zip(webs, tables)
        ]
    return tables


def is_closed_by_words(webs, level, tables):
    rows = [
        (table[row], look_by_words(web, row), sees_by_words(web, level, table, row))
        for web, table in zip(webs, tables) for row in rows_by_words(web, level)
    ]
    return all(one[1:] == other[1:] for one in rows for other in rows if one[0] == other[0])


def partitions(many):
    """All ways to tell integers to so many things, unlike up to which integers they are."""
    ways = [()]
    for _ in range(many):
        ways = [way + (part,) for way in ways for part in range(max(way, default=-1) + 2)]
    return ways
