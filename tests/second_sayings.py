"""A second way to sayings, slow and straight from the words of the document. (3.1, 3.2)"""


def lines_told(line):
    if line[0] in ("all", "some"):
        return list(line[1])
    return {"not": [line[-1]], "many": [line[-1]]}.get(line[0], [])


def own_names(line):
    return {"hue": line[1:2], "same": line[1:3], "tie": line[2:4], "many": line[1:2]}.get(line[0], ())


def free_by_words(saying, at=-1):
    line = saying[at]
    if line[0] in ("hue", "same", "tie"):
        return set(own_names(line))
    found = set().union(*[free_by_words(saying, told) for told in lines_told(line)])
    return found - {line[1]} if line[0] == "many" else found


def names_by_words(saying, at=-1):
    line = saying[at]
    return set(own_names(line)).union(*[names_by_words(saying, told) for told in lines_told(line)])


def depth_by_words(saying, at=-1):
    line = saying[at]
    deepest = max([depth_by_words(saying, told) for told in lines_told(line)], default=0)
    return deepest + (line[0] == "many")


def holds_by_words(web, saying, places, at=-1):
    line = saying[at]
    kind = line[0]
    if kind == "hue":
        return web.hues[places[line[1]]] == line[2]
    if kind == "same":
        return places[line[1]] == places[line[2]]
    if kind == "tie":
        return (line[1], places[line[2]], places[line[3]]) in web.ties
    if kind == "not":
        return not holds_by_words(web, saying, places, line[1])
    if kind == "all":
        return all(holds_by_words(web, saying, places, told) for told in line[1])
    if kind == "some":
        return any(holds_by_words(web, saying, places, told) for told in line[1])
    _, name, least, told = line
    true = [place for place in range(web.many) if holds_by_words(web, saying, {**places, name: place}, told)]
    return len(true) >= least


def chance_line(chance, at, names, near):
    """A line by chance that stands behind so many others, near telling how far back those are that it tells."""
    i, j = chance.randrange(names), chance.randrange(names)
    kind = chance.choice(["hue", "same", "tie", "tie", "not", "all", "some", "many", "many"])
    if kind == "hue" or (at == 0 and kind in ("not", "many")):
        return "hue", i, chance.randrange(3)
    if kind == "same":
        return "same", i, j
    if kind == "tie":
        return "tie", chance.randrange(4), i, j
    first = max(0, at - near)
    if kind == "not":
        return "not", chance.randrange(first, at)
    if kind == "many":
        return "many", i, chance.choice([1, 1, 1, 2, 2, 3, 4]), chance.randrange(first, at)
    return kind, tuple(chance.randrange(first, at) for _ in range(chance.randrange(4)) if at)


def chance_saying(chance, many, names=4, near=4):
    """A saying by chance with so many lines, of which the last one tells some."""
    return tuple(chance_line(chance, at, names, near) for at in range(many))


def chance_sayings(chance, times, names=4):
    return [chance_saying(chance, chance.randrange(1, 14), names) for _ in range(times)]


def long_sayings(many):
    """Sayings of so many lines, each telling the one ahead."""
    first = ("tie", 0, 0, 1)
    yield (first, *[("not", at) for at in range(many - 1)])
    yield (first, *[("many", at % 4, 1, at) for at in range(many - 1)])
    yield (first, *[("all", (at, at, at)) for at in range(many - 1)])
    yield (first, *[("some", (at, at)) for at in range(many - 1)])
    yield (first, *[[("not", at), ("many", 1, 1 + at % 3, at), ("some", (at,)), ("all", (at, 0))][at % 4]
                    for at in range(many - 1)])
