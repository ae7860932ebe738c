"""Bases of known width, and all small ones."""

import itertools
import random

from levelkin.bases import Base


def all_pairs(many):
    return Base(many, tuple(itertools.combinations(range(many), 2)))


def way(many):
    return Base(many, tuple((p, p + 1) for p in range(many - 1)))


def star(many):
    return Base(many, tuple((0, p) for p in range(1, many)))


def ring_base(many):
    return Base(many, tuple(sorted([(p, p + 1) for p in range(many - 1)] + [(0, many - 1)])))


def ladder(rungs):
    ties = [(2 * p, 2 * p + 1) for p in range(rungs)]
    ties += [(2 * p + side, 2 * p + side + 2) for p in range(rungs - 1) for side in (0, 1)]
    return Base(2 * rungs, tuple(sorted(ties)))


ALONE = Base(1, ())
TRIANGLE = all_pairs(3)
CUBE = Base(8, tuple((a, b) for a in range(8) for b in range(a + 1, 8) if (a ^ b) in (1, 2, 4)))
# Three places, each tied with each of three others.
UTILITY = Base(6, tuple((a, b) for a in range(3) for b in range(3, 6)))
# All of eight places are tied with one another, but for the four pairs across.
OCTAHEDRON_4 = Base(8, tuple((a, b) for a in range(8) for b in range(a + 1, 8) if b != a + 4))
WHEEL = Base(6, tuple(sorted([(0, p) for p in range(1, 6)] + [(1, 2), (2, 3), (3, 4), (4, 5), (1, 5)])))
# Two rings of three at place 0: what is left without it falls apart, and which part is the lesser one changes.
RINGS = Base(5, ((0, 1), (0, 2), (0, 3), (0, 4), (1, 3), (2, 4)))
KNOTS = Base(
    8, ((0, 1), (0, 2), (0, 4), (0, 6), (1, 3), (1, 5), (1, 7), (2, 3), (2, 5), (2, 7), (3, 7), (4, 5), (5, 6)))

KNOWN_WIDTHS = [
    (ALONE, 0), (way(2), 1), (way(5), 1), (way(8), 1), (star(4), 1), (star(7), 1), (ring_base(3), 2),
    (ring_base(5), 2), (ring_base(8), 2), (all_pairs(4), 3), (all_pairs(5), 4), (all_pairs(6), 5), (all_pairs(7), 6),
    (ladder(2), 2), (ladder(3), 2), (ladder(4), 2), (CUBE, 3), (UTILITY, 3), (OCTAHEDRON_4, 6), (WHEEL, 3),
    (RINGS, 2), (KNOTS, 3),
]


def small_bases(most):
    """All bases of at most so many places."""
    for many in range(1, most + 1):
        pairs = list(itertools.combinations(range(many), 2))
        for size in range(len(pairs) + 1):
            for ties in itertools.combinations(pairs, size):
                found = {0}
                for _ in range(many):
                    found |= {p for tie in ties if found & set(tie) for p in tie}
                if len(found) == many:
                    yield Base(many, ties)


def chance_bases(times, least, most):
    """Some bases by chance, the same in each run."""
    chance = random.Random(20261120)
    while times:
        many = chance.randrange(least, most + 1)
        thick = chance.randrange(2, 10)
        ties = {(chance.randrange(p), p) for p in range(1, many)}
        ties |= {tie for tie in itertools.combinations(range(many), 2) if chance.randrange(10) < thick}
        if max(sum(p in tie for tie in ties) for p in range(many)) <= 6:
            times -= 1
            yield Base(many, tuple(sorted(ties)))
