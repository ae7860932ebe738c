"""Webs that are alike, portraits, and the second fact. (2.3)"""

import itertools
import random
import unittest

from levelkin.colours import alike, colouring, portrait
from levelkin.errors import NoLevel, TooMany
from levelkin.webs import Web, beside, renamed

from tests.second import colouring_by_words, look_by_words, sees_by_words
from tests.things import PATH, bare, both_ways, path, ring, small_webs, told_error, wrong_things
from tests.test_colours import NO_LEVELS

SIX = ring(6)
TWO = beside(ring(3), ring(3))


def square(steps):
    """The web of 4 times 4 places, with ties from each one to those that lie so many steps off."""
    pairs = [
        (4 * a + b, 4 * ((a + down) % 4) + (b + right) % 4)
        for a in range(4) for b in range(4) for down, right in steps
    ]
    return both_ways(16, pairs)


# Both have at each place 6 ties, and 2 places that are tied to any two: so nothing smaller parts them.
ROOK = square([(0, 1), (0, 2), (1, 0), (2, 0)])
TORUS = square([(0, 1), (1, 0), (1, 1)])


def portrait_by_words(web, level):
    table = colouring_by_words([web], level)[1][0]
    told = []
    for number in sorted(set(table.values())):
        rows = [row for row in table if table[row] == number]
        sights = [tuple(sees_by_words(web, level, table, row)) for row in rows]
        assert all(sight == sights[0] for sight in sights)
        told.append((len(rows), look_by_words(web, rows[0]), sights[0]))
    return tuple(told)


def all_graphs(many):
    pairs = list(itertools.combinations(range(many), 2))
    return [both_ways(many, some) for size in range(len(pairs) + 1) for some in itertools.combinations(pairs, size)]


class Alike(unittest.TestCase):
    def test_the_example(self):
        self.assertIs(alike(SIX, TWO, 1), True)
        self.assertIs(alike(SIX, TWO, 2), False)
        self.assertIs(alike(SIX, TWO, 3), False)

    def test_webs_that_are_the_same(self):
        chance = random.Random(7)
        for web in [*small_webs(20), SIX, TWO]:
            order = list(range(web.many))
            chance.shuffle(order)
            for level in (1, 2, 3):
                self.assertIs(alike(web, renamed(web, tuple(order)), level), True)
                self.assertIs(alike(web, web, level), True)

    def test_unlike_numbers_of_places(self):
        for level in (1, 2, 3):
            for one, other in itertools.combinations([bare(1), bare(2), bare(3), path(4), ring(5)], 2):
                self.assertIs(alike(one, other, level), False)
                self.assertIs(alike(other, one, level), False)

    def test_alike_at_two_levels_but_not_at_the_third(self):
        self.assertIs(alike(ROOK, TORUS, 1), True)
        self.assertIs(alike(ROOK, TORUS, 2), True)
        self.assertIs(alike(ROOK, TORUS, 3), False)

    def test_levels_below(self):
        webs = [*small_webs(12), SIX, TWO, ring(7), beside(ring(3), ring(4)), path(4)]
        for one, other in itertools.combinations(webs, 2):
            told = [alike(one, other, level) for level in (1, 2, 3)]
            self.assertEqual(told, sorted(told, reverse=True))
            self.assertEqual(told, [alike(other, one, level) for level in (1, 2, 3)])

    def test_by_words(self):
        for one, other in itertools.combinations(small_webs(10, 3), 2):
            for level in (1, 2):
                told = colouring_by_words([one, other], level)[1]
                self.assertIs(alike(one, other, level), told[0][()] == told[1][()])

    def test_hues_kinds_and_the_way_of_ties(self):
        for one, other in ((Web(1, (0,), ()), Web(1, (1,), ())),
                           (Web(1, (0,), ((0, 0, 0),)), Web(1, (0,), ())),
                           (Web(1, (0,), ((0, 0, 0),)), Web(1, (0,), ((1, 0, 0),))),
                           (Web(3, (0, 0, 0), ((0, 0, 1), (0, 0, 2))), Web(3, (0, 0, 0), ((0, 1, 0), (0, 2, 0))))):
            self.assertEqual([alike(one, other, level) for level in (1, 2, 3)], [False] * 3)

    def test_errors(self):
        for level in NO_LEVELS:
            self.assertEqual(told_error(alike, PATH, PATH, level), (NoLevel, {}), level)
        for at, thing in enumerate(wrong_things()):
            self.assertEqual(told_error(alike, bare(40), bare(40), thing), (NoLevel, {}), at)
        for one, other in ((22, 1), (1, 22), (7, 21), (14, 19), (17, 17)):
            self.assertEqual(told_error(alike, bare(one), bare(other), 3), (TooMany, {"most": 10000}))
        self.assertIs(alike(bare(6), bare(21), 3), False)
        self.assertIs(alike(bare(16), bare(16), 3), True)
        self.assertIs(alike(bare(40), bare(40), 2), True)


class Portraits(unittest.TestCase):
    def test_a_small_one(self):
        here = (((0, 0), ((0, 1),), ()), (1,))
        self.assertEqual(portrait(bare(1), 1), (
            (1, ((), (), ()), ((((0,), (), ()), (1,)),)),
            (1, ((0,), (), ()), (here,)),
        ))

    def test_the_path(self):
        told = portrait(PATH, 1)
        self.assertEqual([entry[0] for entry in told], [1, 2, 1])
        self.assertEqual([entry[1] for entry in told], [((), (), ()), ((0,), (), ()), ((0,), (), ())])
        point = ((0,), (), ())
        self.assertEqual(told[0][2], ((point, (1,)), (point, (1,)), (point, (2,))))
        tied = ((0, 0), (), ((0, 0, 1), (0, 1, 0)))
        self.assertEqual(told[2][2], ((tied, (1,)), (tied, (1,)), (((0, 0), ((0, 1),), ()), (2,))))

    def test_by_words(self):
        for web in [*small_webs(20), path(5), ring(5)]:
            for level in (1, 2):
                self.assertEqual(portrait(web, level), portrait_by_words(web, level))
        for web in [*small_webs(8, 3), path(3), bare(2)]:
            self.assertEqual(portrait(web, 3), portrait_by_words(web, 3))

    def test_rows_are_counted(self):
        for web in [*small_webs(10), SIX]:
            for level in (1, 2, 3):
                rounds, (table,) = colouring([web], level)
                told = portrait(web, level)
                self.assertEqual(sum(entry[0] for entry in told), len(table))
                self.assertEqual(len(told), len(set(table.values())))
                self.assertTrue(all(len(entry[2]) == web.many for entry in told))

    def test_kinds_of_values(self):
        told = portrait(PATH, 2)
        self.assertIs(type(told), tuple)
        for entry in told:
            self.assertEqual([type(part) for part in entry], [int, tuple, tuple])
            for seen, numbers in entry[2]:
                self.assertEqual((type(seen), type(numbers)), (tuple, tuple))

    def test_the_same_exactly_if_alike(self):
        webs = [*small_webs(14), SIX, TWO, ring(7), beside(ring(3), ring(4)), path(4), renamed(path(4), (2, 0, 3, 1))]
        for level in (1, 2, 3):
            told = [portrait(web, level) for web in webs]
            for one, other in itertools.combinations_with_replacement(range(len(webs)), 2):
                self.assertIs(alike(webs[one], webs[other], level), told[one] == told[other])

    def test_the_same_exactly_if_alike_of_all_small_graphs(self):
        webs = all_graphs(4)
        self.assertEqual(len(webs), 64)
        some = webs[::5]
        for level in (1, 2):
            told = [portrait(web, level) for web in webs]
            for one in some:
                for at, other in enumerate(webs):
                    self.assertIs(alike(one, other, level), portrait(one, level) == told[at])

    def test_large_ones_alike_and_not(self):
        for level, due in ((1, True), (2, True), (3, False)):
            self.assertIs(portrait(ROOK, level) == portrait(TORUS, level), due)

    def test_the_same_for_webs_that_are_the_same(self):
        for web in small_webs(10):
            order = tuple(range(1, web.many)) + (0,)
            for level in (1, 2, 3):
                self.assertEqual(portrait(web, level), portrait(renamed(web, order), level))

    def test_errors(self):
        for level in NO_LEVELS:
            self.assertEqual(told_error(portrait, PATH, level), (NoLevel, {}), level)
        for at, thing in enumerate(wrong_things()):
            self.assertEqual(told_error(portrait, bare(40), thing), (NoLevel, {}), at)
        for many in (22, 40):
            self.assertEqual(told_error(portrait, bare(many), 3), (TooMany, {"most": 10000}))
        self.assertEqual(sum(entry[0] for entry in portrait(bare(21), 3)), 9724)


if __name__ == "__main__":
    unittest.main()
