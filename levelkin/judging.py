"""What kind of thing an argument is, in the words of the document. (0.2, 1.2, 1.3, 2.1, 8.1, 9.1, 10.1)"""

LETTERS = "abcdefghijklmnopqrstuvwxyz"
FIGURES = "0123456789"
LONGEST_WORD = 8
MOST_FIGURES = 9


def is_whole(thing):
    """Whether a thing is an integer: flags are none."""
    return isinstance(thing, int) and not isinstance(thing, bool)


def is_number(thing):
    """Whether a thing is an integer from 0 on."""
    return is_whole(thing) and thing >= 0


def is_below(many, thing):
    """Whether a thing is one of the numbers below many."""
    return is_number(thing) and thing < many


def is_level(thing):
    """Whether a thing is a level."""
    return is_whole(thing) and 1 <= thing <= 3


def is_order(many, thing):
    """Whether a thing is a tuple of all numbers below many, each once."""
    if not isinstance(thing, tuple) or len(thing) != many:
        return False
    return all([is_below(many, place) for place in thing]) and len(set(thing)) == many


def is_row(many, most, thing):
    """Whether a thing is a tuple of at most so many of the numbers below many."""
    if not isinstance(thing, tuple) or len(thing) > most:
        return False
    return all([is_below(many, place) for place in thing])


def is_lot(many, thing):
    """Whether a thing is an ascending tuple of unlike numbers below many."""
    if not isinstance(thing, tuple) or not all([is_below(many, number) for number in thing]):
        return False
    return all([ahead < number for ahead, number in zip(thing, thing[1:])])


def is_word(thing):
    """Whether a thing is a word of 1 to 8 letters a to z."""
    if not isinstance(thing, str) or not 1 <= len(thing) <= LONGEST_WORD:
        return False
    return all([sign in LETTERS for sign in thing])


def is_figures(text):
    """Whether a text is a number without needless noughts, of at most 9 figures."""
    if not 1 <= len(text) <= MOST_FIGURES or not all([sign in FIGURES for sign in text]):
        return False
    return len(text) == 1 or text[0] != "0"
