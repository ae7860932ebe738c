"""Machines without names that run on webs, and tellers that are asked. (7)"""

from levelkin.colours import charts_of, check_level, check_webs, history, kinds_of
from levelkin.errors import BadMachine, BadTeller, NoMachine, NoNumber, NoWebs
from levelkin.judging import is_below, is_whole
from levelkin.partings import parting
from levelkin.sayings import holds
from levelkin.webs import Eye, Web

MOST_ROUNDS = 100
DEEPEST = 10
MOST_ASKED = 12


def is_state(thing, deepest):
    """Whether a thing is an integer, a string, or a tuple of such, nested so deep at most: a state or a letter."""
    if isinstance(thing, str) or is_whole(thing):
        return True
    if not isinstance(thing, tuple) or deepest == 0:
        return False
    return all([is_state(part, deepest - 1) for part in thing])


def first_unlike(one, other):
    """The first two items of two tuples that are unlike, at one place in both; None if there are none."""
    for mine, yours in zip(one, other):
        if mine != yours:
            return mine, yours
    return None


def can_order(one, other):
    """Whether Python can order two letters."""
    while isinstance(one, tuple) and isinstance(other, tuple):
        unlike = first_unlike(one, other)
        if unlike is None:
            return True
        one, other = unlike
    if isinstance(one, str):
        return isinstance(other, str)
    return is_whole(one) and is_whole(other)


def check_states(things, turn):
    """Raises the error for the first place at which there is no state, or no letter."""
    for place, thing in enumerate(things):
        if not is_state(thing, DEEPEST):
            raise BadMachine(turn, place)


def check_letters(letters, turn):
    """Raises the error for what is no letter, and for letters that Python cannot order."""
    check_states(letters, turn)
    for at, letter in enumerate(letters):
        if not all([can_order(letter, other) for other in letters[:at]]):
            raise BadMachine(turn, 0)


def states(web, machine, rounds):
    """For each round the states that a machine has on the places of a web."""
    if not isinstance(machine, tuple) or len(machine) != 3:
        raise NoMachine()
    if not is_below(MOST_ROUNDS + 1, rounds):
        raise NoNumber()
    begin, say, step = machine
    eye = Eye(web)
    places = range(web.many)
    looks = [[eye.look_at((place, other)) for other in places] for place in places]
    now = tuple([begin(eye.look_at((place,))) for place in places])
    check_states(now, 0)
    told = [now]
    for turn in range(1, rounds + 1):
        letters = [say(state) for state in now]
        check_letters(letters, turn)
        now = tuple([step(state, sorted(list(zip(seen, letters)))) for state, seen in zip(now, looks)])
        check_states(now, turn)
        told.append(now)
    return told


def first_states(looks, charts, numbers):
    """The dict from the looks of all places to their numbers in round 0."""
    table = {}
    for chart, own in zip(charts, numbers):
        for at in range(1, chart.many + 1):
            table[looks[chart.looks[at]]] = own[at]
    return table


def next_states(looks, charts, numbers, after):
    """The dict from the number of each place in a round, and what it hears there, to its number in the next one."""
    table = {}
    for chart, own, later in zip(charts, numbers, after):
        for at in range(1, chart.many + 1):
            heard = tuple([(looks[look], letter) for look, letter in chart.seen(own, at)])
            table[(own[at], heard)] = later[at]
    return table


def best(webs):
    """A machine that has, in each round, the number of its place's colour there: its states are (round, number)."""
    check_webs(webs)
    check_level(webs, 1)
    looks, charts = charts_of(webs, 1)
    told = history(charts)
    firsts = first_states(looks, charts, told[0])
    tables = [next_states(looks, charts, numbers, after) for numbers, after in zip(told, told[1:])]

    def begin(look):
        return 0, firsts[look]

    def say(state):
        return state[1]

    def step(state, heard):
        turn, number = state
        if turn < len(tables):
            return turn + 1, tables[turn][(number, tuple(heard))]
        # Behind the last round in which colours split they keep their numbers.
        return turn + 1, number

    return begin, say, step


def first_two(kinds, left):
    """The first number that is left, and the first behind it whose web is of another kind; None if there is none."""
    for other in left:
        if kinds[other] != kinds[left[0]]:
            return left[0], other
    return None


def found(webs, level, teller):
    """The lot of the webs of which all is true that a teller tells, and what it was asked and told.

    It is asked sayings that part two webs which are left: each is true of just one of them. So whatever it tells,
    one of the two kinds goes, and one stays: never is it true of none.
    """
    if not isinstance(webs, (list, tuple)) or not 1 <= len(webs) <= MOST_ASKED:
        raise NoWebs()
    if not all([isinstance(web, Web) for web in webs]):
        raise NoWebs()
    kinds = kinds_of(webs, level)
    left = list(range(len(webs)))
    asked = []
    pair = first_two(kinds, left)
    while pair is not None:
        saying = parting(webs[pair[0]], webs[pair[1]], level)
        told = teller(saying)
        if not isinstance(told, bool):
            raise BadTeller(tuple(asked))
        asked.append((saying, told))
        left = [number for number in left if holds(webs[number], saying, {}) == told]
        pair = first_two(kinds, left)
    return tuple(left), tuple(asked)
