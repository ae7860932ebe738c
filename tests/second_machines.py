"""A second way to machines, slow and straight from the words of the document. (7.1)"""

from tests.second import look_by_words


def is_told_by_words(thing, deep=0):
    if type(thing) is tuple:
        return deep < 10 and all(is_told_by_words(part, deep + 1) for part in thing)
    return type(thing) in (int, str)


def states_by_words(web, machine, rounds):
    """The list of the states, or the pair (round, place) that is due."""
    begin, say, step = machine
    places = range(web.many)
    now = tuple(begin(look_by_words(web, (place,))) for place in places)
    told = [now]
    for place in places:
        if not is_told_by_words(now[place]):
            return 0, place
    for turn in range(1, rounds + 1):
        letters = [say(state) for state in now]
        for place in places:
            if not is_told_by_words(letters[place]):
                return turn, place
        for one in letters:
            for other in letters:
                try:
                    sorted([one, other])
                except TypeError:
                    return turn, 0
        after = []
        for place in places:
            heard = sorted((look_by_words(web, (place, other)), letters[other]) for other in places)
            after.append(step(now[place], heard))
        for place in places:
            if not is_told_by_words(after[place]):
                return turn, place
        now = tuple(after)
        told.append(now)
    return told
