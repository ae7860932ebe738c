"""A second way to the game, slow and straight from the words of the document. (4)"""

import itertools

from tests.second import look_by_words


def next_standings(level, standing, place, answer):
    """All standings among which the first player chooses if a turn does not win."""
    mine, yours = standing
    if len(mine) < level:
        return [(mine + (place,), yours + (answer,))]
    return [
        (mine[:i] + (place,) + mine[i + 1:], yours[:i] + (answer,) + yours[i + 1:]) for i in range(level)
    ]


def is_won_by_words(one, other, standing, place, answer):
    mine, yours = standing
    return look_by_words(one, mine + (place,)) != look_by_words(other, yours + (answer,))


def is_standing_by_words(one, other, level, thing):
    if type(thing) is not tuple or len(thing) != 2 or any(type(row) is not tuple for row in thing):
        return False
    mine, yours = thing
    return (
        len(mine) == len(yours) <= level
        and all(type(p) is int and 0 <= p < one.many for p in mine)
        and all(type(p) is int and 0 <= p < other.many for p in yours)
    )


def is_hold_by_words(one, other, level, thing):
    if type(thing) is not dict or one.many != other.many or ((), ()) not in thing:
        return False
    for standing, order in thing.items():
        if not is_standing_by_words(one, other, level, standing) or type(order) is not tuple:
            return False
        if any(type(p) is not int for p in order) or sorted(order) != list(range(one.many)):
            return False
        for place in range(one.many):
            if is_won_by_words(one, other, standing, place, order[place]):
                return False
            if any(after not in thing for after in next_standings(level, standing, place, order[place])):
                return False
    return True


def is_lot_by_words(many, thing):
    return (
        type(thing) is tuple and all(type(p) is int and 0 <= p < many for p in thing)
        and list(thing) == sorted(set(thing))
    )


def is_plan_by_words(one, other, level, thing):
    if type(thing) is not dict:
        return False
    if one.many != other.many:
        return len(thing) == 0
    if ((), ()) not in thing:
        return False
    for standing, entry in thing.items():
        if not is_standing_by_words(one, other, level, standing) or type(entry) is not tuple or len(entry) != 3:
            return False
        rounds, mine, yours = entry
        if type(rounds) is not int or rounds < 1:
            return False
        if not is_lot_by_words(one.many, mine) or not is_lot_by_words(other.many, yours) or len(mine) <= len(yours):
            return False
    for standing, (rounds, mine, yours) in thing.items():
        for place in mine:
            for answer in set(range(other.many)) - set(yours):
                led = any(
                    after in thing and thing[after][0] < rounds
                    for after in next_standings(level, standing, place, answer)
                )
                if not led and not is_won_by_words(one, other, standing, place, answer):
                    return False
    return True


def survives(one, other, level, standing, rounds, known):
    """Whether the second player can play so many turns from a standing on without losing."""
    if rounds == 0:
        return True
    if (standing, rounds) not in known:
        known[standing, rounds] = any(
            all(
                not is_won_by_words(one, other, standing, place, order[place])
                and all(survives(one, other, level, after, rounds - 1, known)
                        for after in next_standings(level, standing, place, order[place]))
                for place in range(one.many)
            )
            for order in itertools.permutations(range(one.many))
        )
    return known[standing, rounds]


def fewest_by_words(one, other, level, most=7):
    """The least number of turns within which the first player wins, or None if there is none up to most."""
    if one.many != other.many:
        return 0
    known = {}
    for rounds in range(most + 1):
        if not survives(one, other, level, ((), ()), rounds, known):
            return rounds
    return None
