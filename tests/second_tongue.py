"""A second way to texts and the tongue, slow and straight from the words of the document. (8)"""

import re

# Letters stand for what they are turned into: L a line, M more brackets, I a name, K a kind, H a hue, N a count.
GRAMMAR = {
    "L": ["hue I H", "same I I", "tie K I I", "not (L)", "allM", "someM", "many I N (L)"],
    "M": ["", " (L)M"],
    "I": list("0123"),
    "K": list("0123"),
    "H": list("0123456789"),
    "N": [str(count) for count in range(1, 41)],
}


def heads(rests):
    """All of what may stand here, up to its first sign; rests are what may stand here with letters in it."""
    left, found = list(rests), set()
    while left:
        rest = left.pop()
        if rest and rest[0] in GRAMMAR:
            left.extend(way + rest[1:] for way in GRAMMAR[rest[0]])
        else:
            found.add(rest)
    return found


def first_bad(text):
    """The first sign at which the text of a saying cannot go on, its length if it ends too soon; or None."""
    rests = heads(["L"])
    brackets = 0
    for at, sign in enumerate(text):
        rests = heads(rest[1:] for rest in rests if rest and rest[0] == sign)
        brackets += {"(": 1, ")": -1}.get(sign, 0)
        if not rests or brackets > 100:
            return at
    return None if "" in rests else len(text)


def text_by_words(saying, at=-1):
    line = saying[at]
    words = " ".join(str(word) for word in line if type(word) is not tuple)
    if line[0] in ("not", "many"):
        words = words.rpartition(" ")[0]
        told = [line[-1]]
    else:
        told = line[1] if line[0] in ("all", "some") else []
    return words + "".join(f" ({text_by_words(saying, number)})" for number in told)


def is_text_of_web(text):
    """None for a text whose lines have all their form; else the line that is due."""
    number = "(0|[1-9][0-9]{0,8})"
    forms = [f"places {number}\n", f"hues( {number})*\n"]
    at = 0
    for line in re.findall("[^\n]*\n", text):
        form = forms[at] if at < 2 else f"tie {number} {number} {number}\n"
        at += 1
        if not re.fullmatch(form, line):
            return at
    if at < 2 or not text.endswith("\n"):
        return at + 1
    return None
