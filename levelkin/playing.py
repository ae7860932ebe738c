"""The game as it is played, by callers and by strangers. (4.4)"""

from levelkin.errors import BadPlay, NoIndex, NoLevel, NoNumber, NoOrder, NoPlace, NothingDone, NoTurn, OtherWeb, Over
from levelkin.games import coming, led_on, put_behind
from levelkin.judging import is_below, is_level, is_order
from levelkin.webs import Eye

MOST_TURNS = 1000


class Game:
    """The game at a level on two webs with as many places, where it stands and what led there."""

    def __init__(self, one, other, level):
        if not is_level(level):
            raise NoLevel()
        if one.many != other.many:
            raise OtherWeb()
        self.one = one
        self.other = other
        self.level = level
        self.eyes = (Eye(one), Eye(other))
        self.order = None
        self.whole = []
        self.ahead = [((), ())]
        self.won = False

    def standing(self):
        """The pair of rows at which the game stands; behind a won turn those that stood ahead of it."""
        return self.ahead[-1]

    def tell(self, order):
        """The second player tells an order."""
        if self.won:
            raise Over()
        if self.order is not None:
            raise NoTurn()
        if not is_order(self.one.many, order):
            raise NoOrder()
        self.order = order

    def take(self, place, index):
        """The first player takes a place and, if the rows are full, the index of the item that it comes for."""
        if self.won:
            raise Over()
        if self.order is None:
            raise NoTurn()
        if not is_below(self.one.many, place):
            raise NoPlace()
        if not is_index(self.level, self.standing(), index):
            raise NoIndex()
        answer = self.order[place]
        if is_lost(self.eyes, self.standing(), place, answer):
            self.won = True
        else:
            self.ahead.append(after_turn(self.level, self.standing(), place, answer, index))
        self.whole.append((self.order, place, index))
        self.order = None

    def is_won(self):
        """Whether the first player has won."""
        return self.won

    def turns(self):
        """All whole turns: triples (order, place, index)."""
        return tuple(self.whole)

    def back(self):
        """Takes back the order that was told last, or the last whole turn if none was told since."""
        if self.order is not None:
            self.order = None
        elif self.won:
            self.won = False
            self.whole.pop()
        elif self.whole:
            self.whole.pop()
            self.ahead.pop()
        else:
            raise NothingDone()

    def copy(self):
        """A game that stands here and goes on apart."""
        game = Game(self.one, self.other, self.level)
        game.order = self.order
        game.whole = list(self.whole)
        game.ahead = list(self.ahead)
        game.won = self.won
        return game


def is_index(level, standing, thing):
    """Whether a thing is an index that can be told at a standing: None if the rows are not full."""
    if len(standing[0]) < level:
        return thing is None
    return is_below(level, thing)


def is_lost(eyes, standing, place, answer):
    """Whether the second player has lost if a place is answered so."""
    one_look, other_look = [eye.look_at(row) for eye, row in zip(eyes, put_behind(standing, place, answer))]
    return one_look != other_look


def after_turn(level, standing, place, answer, index):
    """The next standing if the turn does not win."""
    for at, after in coming(level, standing, place, answer):
        if at == index:
            return after


def is_turn(game, thing):
    """Whether a thing is a pair (place, index) that the first player may tell now."""
    if not isinstance(thing, tuple) or len(thing) != 2:
        return False
    place, index = thing
    return is_below(game.one.many, place) and is_index(game.level, game.standing(), index)


def played(one, other, level, first, second, most):
    """What comes of a game that two strangers play: whether the first has won, and the turns, at most so many."""
    game = Game(one, other, level)
    if not is_below(MOST_TURNS + 1, most):
        raise NoNumber()
    while not game.is_won() and len(game.turns()) < most:
        standing = game.standing()
        order = second(standing)
        if not is_order(one.many, order):
            raise BadPlay("second", game.turns())
        game.tell(order)
        told = first(standing, order)
        if not is_turn(game, told):
            raise BadPlay("first", game.turns())
        place, index = told
        game.take(place, index)
    return game.is_won(), game.turns()


def by_hold(hold):
    """A function that plays for the second by a hold."""
    kept = {standing: hold[standing] for standing in hold}

    def second(standing):
        return kept[standing]

    return second


def by_plan(one, other, level, plan):
    """A function that plays for the first by a plan."""
    kept = {standing: plan[standing] for standing in plan}

    def first(standing, order):
        _, mine, yours = kept[standing]
        place = [own for own in mine if order[own] not in yours][0]
        found = led_on(level, kept, standing, place, order[place])
        if found is not None:
            return place, found[0]
        # Then the looks are unlike, and any index that may be told wins.
        index = None if len(standing[0]) < level else 0
        return place, index

    return first
