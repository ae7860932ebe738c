"""Things that tests of several files need: webs, wrong things, and how a raised error is told."""

import random

from levelkin.bases import Base
from levelkin.desk import Desk
from levelkin.errors import BadPlay, BadWeb, KinError, NoOrder
from levelkin.shelves import Disk
from levelkin.webs import Web

PATH = Web(3, (0, 0, 0), ((0, 0, 1), (0, 1, 0), (0, 1, 2), (0, 2, 1)))


def both_ways(many, pairs, hues=None):
    """The web in which ties of kind 0 lead both ways between the places of each pair."""
    ties = sorted({(0, a, b) for a, b in pairs} | {(0, b, a) for a, b in pairs})
    return Web(many, hues or (0,) * many, tuple(ties))


def ring(many):
    return both_ways(many, [(p, (p + 1) % many) for p in range(many)])


def path(many):
    return both_ways(many, [(p, p + 1) for p in range(many - 1)])


def bare(many):
    return Web(many, (0,) * many, ())


def chance_web(chance, many, hues, kinds, thick):
    """A web by chance, but the same in each run: thick of 10 ties that could be there are."""
    all_ties = [(k, a, b) for k in range(kinds) for a in range(many) for b in range(many)]
    return Web(
        many,
        tuple(chance.randrange(hues) for _ in range(many)),
        tuple(tie for tie in all_ties if chance.randrange(10) < thick),
    )


def small_webs(times, most=4):
    """Some small webs of all kinds, the same in each run."""
    chance = random.Random(20261119)
    return [
        chance_web(chance, chance.randrange(1, most + 1), chance.randrange(1, 4), chance.randrange(1, 5),
                   chance.randrange(0, 7))
        for _ in range(times)
    ]


def nested(wrap, times):
    thing = wrap(0)
    for _ in range(times - 1):
        thing = wrap(thing)
    return thing


def wrong_things():
    """New things of all kinds that may be passed, none of them a level, an order, a web, a list of webs .."""
    return [
        None, True, False, -1, -(10 ** 30 - 1), 10 ** 30 - 1,
        "", "web", "x" * 20000, "1\n",
        b"", b"ab", bytearray(b"ab"), memoryview(b"ab"),
        range(3), slice(0, 1), Ellipsis, NotImplemented, object(), int, len, Web, KinError,
        lambda: 0, iter([0]), zip([0]), {0: 0}.items(), (p for p in [0]),
        [], [0], [[]], [None], {}, {0: 0}, {"a": [0]}, {(): ()}, {None: {}},
        (None,), ("",), (True,), (False,), ((),), ([],), (-1,), (10 ** 30 - 1,),
        ValueError("x"), KeyError(), BadWeb("many"), NoOrder(), BadPlay(Web(1, (0,), ()), [1]),
        Web(1, (0,), ()), Base(1, ()), Base(2, ((0, 1),)), [Base(1, ())], Disk(), Desk(), {"a": Web(1, (0,), ())},
        nested(lambda thing: [thing], 40), nested(lambda thing: (thing,), 40),
        nested(lambda thing: {0: thing}, 40), nested(lambda thing: {(0, "a"): [thing]}, 20),
        [None] * 99999, (0,) * 99999, {number: None for number in range(50000)},
    ]


def told_error(call, *given):
    """The class of the error of the package that a call raises and a dict of its fields; else None."""
    try:
        call(*given)
    except KinError as error:
        return error.__class__, dict(vars(error))
    return None
