"""The game of markers: holds for the second player, plans for the first one. (4.1 to 4.3)"""

from levelkin.colours import charts_of, check_level, history, sights_numbered
from levelkin.judging import is_lot, is_order, is_row, is_whole
from levelkin.turnings import Search, pairs_by

# Webs that are hard to turn get a hold of many orders in the place of one: it is not worth more tries.
TRIES = 20000


def is_standing(one, other, level, thing):
    """Whether a thing is a pair of rows of the level, as many places in both."""
    if not isinstance(thing, tuple) or len(thing) != 2:
        return False
    mine, yours = thing
    return is_row(one.many, level, mine) and is_row(other.many, level, yours) and len(mine) == len(yours)


def put_behind(standing, place, answer):
    """The standing with a place behind each row."""
    mine, yours = standing
    return (*mine, place), (*yours, answer)


def put_for(standing, index, place, answer):
    """The standing with a place for the item at an index of each row."""
    mine, yours = standing
    return (*mine[:index], place, *mine[index + 1:]), (*yours[:index], answer, *yours[index + 1:])


def coming(level, standing, place, answer):
    """All pairs (index, next standing) that the first player may choose if this place is answered by that."""
    if len(standing[0]) < level:
        return [(None, put_behind(standing, place, answer))]
    return [(index, put_for(standing, index, place, answer)) for index in range(level)]


def led_on(level, told, standing, place, answer):
    """The first such pair whose standing is one of a plan with less rounds, or None."""
    for index, after in coming(level, standing, place, answer):
        if after in told and told[after][0] < told[standing][0]:
            return index, after
    return None


def looks_behind(chart, row):
    """For each place the number of the look of the row with it behind."""
    first = chart.behind(chart.number_of(row), 0)
    return chart.looks[first:first + chart.many]


def is_held(charts, told, standing):
    """Whether the order that a thing tells at a standing neither loses nor leads to other standings."""
    order = told[standing]
    one_looks, other_looks = [looks_behind(chart, row) for chart, row in zip(charts, standing)]
    if one_looks != [other_looks[answer] for answer in order]:
        return False
    level = charts[0].level
    return all([after in told for place, answer in enumerate(order)
                for _, after in coming(level, standing, place, answer)])


def is_hold(one, other, level, thing):
    """Whether a thing is a dict of orders by which the second player never loses."""
    check_level([one, other], level)
    if one.many != other.many or not isinstance(thing, dict) or ((), ()) not in thing:
        return False
    if not all([is_standing(one, other, level, standing) for standing in thing]):
        return False
    if not all([is_order(one.many, order) for order in thing.values()]):
        return False
    _, charts = charts_of([one, other], level)
    return all([is_held(charts, thing, standing) for standing in thing])


def is_entry(many, thing):
    """Whether a thing is a triple (rounds, mine, yours) as plans tell it."""
    if not isinstance(thing, tuple) or len(thing) != 3:
        return False
    rounds, mine, yours = thing
    if not is_whole(rounds) or rounds < 1 or not is_lot(many, mine) or not is_lot(many, yours):
        return False
    return len(mine) > len(yours)


def is_planned(charts, told, standing):
    """Whether each place of mine wins, or is led on, if it is answered by a place that is not of yours."""
    _, mine, yours = told[standing]
    level = charts[0].level
    one_looks, other_looks = [looks_behind(chart, row) for chart, row in zip(charts, standing)]
    others = [answer for answer in range(charts[1].many) if answer not in yours]
    return all([one_looks[place] != other_looks[answer] or led_on(level, told, standing, place, answer) is not None
                for place in mine for answer in others])


def is_plan(one, other, level, thing):
    """Whether a thing is a dict by which the first player wins."""
    check_level([one, other], level)
    if not isinstance(thing, dict):
        return False
    if one.many != other.many:
        return thing == {}
    if ((), ()) not in thing or not all([is_standing(one, other, level, standing) for standing in thing]):
        return False
    if not all([is_entry(one.many, entry) for entry in thing.values()]):
        return False
    _, charts = charts_of([one, other], level)
    return all([is_planned(charts, thing, standing) for standing in thing])


def whole_turning(charts, numbers):
    """An order by which the one web is the other, or None if there is none, or none is found in some tries."""
    if charts[0].level < 2:
        return None
    one_pairs, other_pairs = [pairs_by(chart, own) for chart, own in zip(charts, numbers)]
    return Search(one_pairs, other_pairs, TRIES).extended(())


def answers(mine, yours, wish):
    """An order that leads each place to one with the same number, that of the wish wherever this can be."""
    kept = {place: True for number, place in zip(mine, wish) if yours[place] == number}
    left = {}
    for place in range(len(yours) - 1, -1, -1):
        if place not in kept:
            left.setdefault(yours[place], []).append(place)
    return tuple([place if place in kept else left[number].pop() for number, place in zip(mine, wish)])


def walked(charts, numbers):
    """A hold of just those standings to which its orders lead from the begin on."""
    one_sights, other_sights = sights_numbered(charts, numbers)
    begin = ((), ())
    # Until a standing is come to it has the order of the one ahead of it: orders that stay lead to fewer standings.
    told = {begin: tuple(range(charts[0].many))}
    left = [begin]
    while left:
        standing = left.pop()
        mine, yours = [chart.number_of(row) for chart, row in zip(charts, standing)]
        order = answers(one_sights[mine], other_sights[yours], told[standing])
        told[standing] = order
        for place, answer in enumerate(order):
            for _, after in coming(charts[0].level, standing, place, answer):
                if after not in told:
                    told[after] = order
                    left.append(after)
    return told


def hold(one, other, level):
    """A dict of orders by which the second player never loses, or None if there is none."""
    check_level([one, other], level)
    if one.many != other.many:
        return None
    _, charts = charts_of([one, other], level)
    numbers = history(charts)[-1]
    if numbers[0][0] != numbers[1][0]:
        return None
    order = whole_turning(charts, numbers)
    if order is None:
        return walked(charts, numbers)
    return {(row, tuple([order[place] for place in row])): order for row in charts[0].rows}


def apart_in(charts, told, standing):
    """The least round in which the rows of a standing have unlike numbers, or how many rounds there are."""
    mine, yours = [chart.number_of(row) for chart, row in zip(charts, standing)]
    for turn, (own, other) in enumerate(told):
        if own[mine] != other[yours]:
            return turn
    return len(told)


def lots_apart(one_sights, other_sights):
    """Lots mine and yours: places with one sight, more of them in one; few, and such that few standings follow."""
    yours = {}
    looks = {}
    for place, sight in enumerate(other_sights):
        yours.setdefault(sight, []).append(place)
        looks[sight[0]] = looks.get(sight[0], 0) + 1
    mine = {}
    for place, sight in enumerate(one_sights):
        mine.setdefault(sight, []).append(place)
    choices = []
    for sight, places in mine.items():
        others = yours.get(sight, [])
        enough = len(others) + 1
        if len(places) >= enough:
            needed = enough * (looks.get(sight[0], 0) - len(others))
            choices.append((needed, enough, tuple(places[:enough]), tuple(others)))
    _, _, least_mine, least_yours = min(choices)
    return least_mine, least_yours


def entry_of(charts, told, standing):
    """What a plan tells at a standing whose rows have one look, and unlike numbers in some round."""
    turn = apart_in(charts, told, standing)
    sights = []
    for chart, numbers, row in zip(charts, told[turn - 1], standing):
        sights.append(chart.sights(numbers, chart.number_of(row)))
    mine, yours = lots_apart(sights[0], sights[1])
    return turn, mine, yours


def following(charts, told, standing, entry):
    """The standings that a plan with this entry needs besides: of those that may come the one with least rounds."""
    _, mine, yours = entry
    one_looks, other_looks = [looks_behind(chart, row) for chart, row in zip(charts, standing)]
    found = []
    for place in mine:
        for answer, look in enumerate(other_looks):
            if answer not in yours and look == one_looks[place]:
                afters = [after for _, after in coming(charts[0].level, standing, place, answer)]
                found.append(min([(apart_in(charts, told, after), after) for after in afters])[1])
    return found


def plan(one, other, level):
    """A dict by which the first player wins in the fewest rounds, or None if there is none."""
    check_level([one, other], level)
    if one.many != other.many:
        return {}
    _, charts = charts_of([one, other], level)
    told = history(charts)
    begin = ((), ())
    if apart_in(charts, told, begin) == len(told):
        return None
    entries = {}
    left = [begin]
    while left:
        standing = left.pop()
        if standing not in entries:
            entries[standing] = entry_of(charts, told, standing)
            left.extend(following(charts, told, standing, entries[standing]))
    return entries


def fewest(one, other, level):
    """The rounds of a plan of fewest rounds: 0 for unlike numbers of places, None if there is no plan."""
    check_level([one, other], level)
    if one.many != other.many:
        return 0
    _, charts = charts_of([one, other], level)
    told = history(charts)
    turn = apart_in(charts, told, ((), ()))
    return turn if turn < len(told) else None
