"""A second way to the lines of a shelf, slow and straight from the words of the document. (9)"""

import re

from levelkin.errors import KinError
from levelkin.texts import read_web

SIGNS = "".join(map(chr, range(32, 127)))


def sum_by_words(text):
    total = 0
    for place, sign in enumerate(text):
        total += SIGNS.index(sign) * (place + 1)
    return total % 999983


def line_by_words(*words):
    """A line without its line feed: the sum stands behind the name, and is that of all other signs."""
    return " ".join([*words[:2], str(sum_by_words(" ".join(words))), *words[2:]])


def kept_by_words(text):
    """The dict of the webs that the lines that count tell, and the text of these lines."""
    kept, counting = {}, ""
    for line in re.findall("[^\n]*\n", text):
        put = re.fullmatch("put ([a-z]{1,8}) ([0-9]+) (.*)\n", line)
        drop = re.fullmatch("drop ([a-z]{1,8}) ([0-9]+)\n", line)
        if put:
            name, number, told = put.groups()
            if str(sum_by_words(f"put {name} {told}")) != number:
                break
            try:
                kept[name] = read_web(told.replace("|", "\n"))
            except KinError:
                break
        elif drop:
            name, number = drop.groups()
            if str(sum_by_words(f"drop {name}")) != number or name not in kept:
                break
            del kept[name]
        else:
            break
        counting += line
    return kept, counting
