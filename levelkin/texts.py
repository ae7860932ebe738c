"""Webs written as texts, and read. (8.1)"""

from levelkin.errors import BadText
from levelkin.judging import is_figures
from levelkin.webs import Web

TIE_WORDS = 4


def line_of(words):
    """A line of these words, closed."""
    return " ".join([str(word) for word in words]) + "\n"


def web_text(web):
    """The text of a web."""
    lines = [line_of(["places", web.many]), line_of(["hues", *web.hues])]
    lines.extend([line_of(["tie", *tie]) for tie in web.ties])
    return "".join(lines)


def has_form(at, words):
    """Whether the line at a number, from 0 on, has the form that is due there."""
    if not all([is_figures(word) for word in words[1:]]):
        return False
    if at == 0:
        return words[0] == "places" and len(words) == 2
    if at == 1:
        return words[0] == "hues"
    return words[0] == "tie" and len(words) == TIE_WORDS


def read_web(text):
    """The web that a text tells."""
    if not isinstance(text, str):
        raise BadText(0)
    lines = text.split("\n")
    rows = [line.split(" ") for line in lines[:-1]]
    for at, words in enumerate(rows):
        if not has_form(at, words):
            raise BadText(at + 1)
    if len(rows) < 2 or lines[-1]:
        raise BadText(len(rows) + 1)
    numbers = [[int(word) for word in words[1:]] for words in rows]
    return Web(numbers[0][0], tuple(numbers[1]), tuple([tuple(tie) for tie in numbers[2:]]))
