"""Turnings, and webs that are the same. (0.2 to 0.5, 1.2)"""

import copy
import itertools
import math
import random
import unittest

from levelkin.errors import TooMany
from levelkin.turnings import is_turning, many_turnings, turning
from levelkin.webs import Web, beside, renamed

from tests.things import PATH, bare, both_ways, path, ring, small_webs, told_error, wrong_things


def chance_order(chance, many):
    order = list(range(many))
    chance.shuffle(order)
    return tuple(order)


def turnings_by_words(one, other):
    return [order for order in itertools.permutations(range(one.many)) if renamed(one, order) == other]


def all_ties(many):
    """Ties of all kinds from each place to each, itself too."""
    return Web(many, (3,) * many, tuple(itertools.product(range(4), range(many), range(many))))


def hypercube():
    return both_ways(8, [(p, p ^ bit) for p in range(8) for bit in (1, 2, 4)])


# Three places in a ring and one alone, over and over: all of them look alike at first sight.
TWELVE = beside(beside(ring(3), ring(3)), ring(6))
OTHER_TWELVE = beside(ring(4), beside(ring(4), ring(4)))


class Turning(unittest.TestCase):
    def check(self, one, other, due):
        before = copy.deepcopy((one, other))
        order = turning(one, other)
        if due:
            self.assertIs(type(order), tuple)
            self.assertEqual(sorted(order), list(range(one.many)))
            self.assertEqual(renamed(one, order), other)
            self.assertIs(is_turning(one, other, order), True)
        else:
            self.assertIsNone(order)
        self.assertEqual(turning(one, other), order)
        self.assertEqual((one, other), before)

    def test_of_small_webs_by_words(self):
        webs = [*small_webs(24), *small_webs(12, 2), path(3), PATH, ring(4), bare(4)]
        for one in webs:
            for other in webs:
                same = one.many == other.many and bool(turnings_by_words(one, other))
                self.check(one, other, same)

    def test_webs_by_a_drawn_order(self):
        chance = random.Random(11)
        for web in [*small_webs(40, 9), ring(12), path(12), bare(12), all_ties(7), TWELVE, hypercube(),
                    beside(ring(5), ring(7)), Web(12, tuple(range(10)) + (0, 1), ())]:
            for _ in range(3):
                self.check(web, renamed(web, chance_order(chance, web.many)), True)
            self.check(web, web, True)

    def test_one_tie_or_hue_otherwise(self):
        chance = random.Random(12)
        for web in [*small_webs(30, 6), ring(12), path(11), TWELVE, hypercube()]:
            order = chance_order(chance, web.many)
            hues = list(web.hues)
            hues[chance.randrange(web.many)] = 9
            self.check(web, renamed(Web(web.many, tuple(hues), web.ties), order), False)
            if web.ties:
                at = chance.randrange(len(web.ties))
                less = Web(web.many, web.hues, web.ties[:at] + web.ties[at + 1:])
                self.check(web, renamed(less, order), False)
                self.check(renamed(less, order), web, False)

    def test_a_tie_moved_round_or_of_another_kind(self):
        self.check(Web(2, (0, 0), ((0, 0, 1),)), Web(2, (0, 0), ((0, 1, 0),)), True)
        self.check(Web(2, (0, 1), ((0, 0, 1),)), Web(2, (0, 1), ((0, 1, 0),)), False)
        self.check(Web(2, (0, 0), ((0, 0, 1),)), Web(2, (0, 0), ((1, 0, 1),)), False)
        self.check(Web(2, (0, 0), ((0, 0, 0),)), Web(2, (0, 0), ((0, 0, 1),)), False)

    def test_webs_that_are_hard_to_tell_apart(self):
        self.check(ring(6), beside(ring(3), ring(3)), False)
        self.check(beside(ring(6), ring(6)), TWELVE, False)
        self.check(TWELVE, OTHER_TWELVE, False)
        self.check(ring(12), TWELVE, False)
        self.check(beside(bare(6), ring(6)), beside(bare(6), beside(ring(3), ring(3))), False)

    def test_unlike_numbers_of_places(self):
        self.check(bare(3), bare(4), False)
        self.check(bare(12), bare(1), False)
        self.check(ring(5), ring(6), False)

    def test_the_most_places(self):
        self.check(ring(12), ring(12), True)
        for one, other in ((bare(13), bare(12)), (bare(12), bare(13)), (bare(1), bare(40)), (ring(13), ring(13)),
                           (bare(13), bare(14))):
            self.assertEqual(told_error(turning, one, other), (TooMany, {"most": 12}))


class IsTurning(unittest.TestCase):
    def test_all_orders_of_small_webs(self):
        for web in small_webs(25):
            for other in [web, *small_webs(6)]:
                for order in itertools.permutations(range(web.many)):
                    self.assertIs(is_turning(web, other, order), renamed(web, order) == other)

    def test_what_is_no_order(self):
        one = bare(2)
        for thing in ((0,), (0, 1, 2), (0, 0), (1, 2), (-1, 0), [0, 1], (0, True), (False, 1), ((0, 1),), {0: 0, 1: 1}):
            self.assertIs(is_turning(one, one, thing), False, thing)
        self.assertIs(is_turning(one, one, (1, 0)), True)

    def test_wrong_things(self):
        for thing in wrong_things():
            self.assertIs(is_turning(bare(1), bare(1), thing), False)
            self.assertIs(is_turning(PATH, PATH, thing), False)
            self.assertIs(is_turning(bare(1), bare(2), thing), False)

    def test_unlike_numbers_of_places(self):
        self.assertIs(is_turning(bare(2), bare(3), (0, 1)), False)
        self.assertIs(is_turning(bare(2), bare(3), (0, 1, 2)), False)
        self.assertIs(is_turning(bare(3), bare(2), (0, 1)), False)

    def test_large_webs(self):
        chance = random.Random(13)
        web = beside(ring(20), path(20))
        order = chance_order(chance, 40)
        self.assertIs(is_turning(web, renamed(web, order), order), True)
        self.assertIs(is_turning(web, renamed(web, order), tuple(reversed(order))), False)


class ManyTurnings(unittest.TestCase):
    def test_the_example(self):
        self.assertEqual(many_turnings(PATH), 2)

    def test_known_numbers(self):
        for many in range(1, 9):
            self.assertEqual(many_turnings(bare(many)), math.factorial(many))
            self.assertEqual(many_turnings(Web(many, tuple(range(many)), ())), 1)
            self.assertEqual(many_turnings(path(many)), 1 if many == 1 else 2)
        for many in range(3, 9):
            self.assertEqual(many_turnings(ring(many)), 2 * many)
            one_way = Web(many, (0,) * many, tuple(sorted((0, p, (p + 1) % many) for p in range(many))))
            self.assertEqual(many_turnings(one_way), many)
        self.assertEqual(many_turnings(all_ties(8)), math.factorial(8))
        self.assertEqual(many_turnings(hypercube()), 48)
        self.assertEqual(many_turnings(beside(ring(3), ring(3))), 72)
        self.assertEqual(many_turnings(beside(ring(4), ring(4))), 128)
        self.assertEqual(many_turnings(Web(8, (0, 0, 0, 1, 1, 1, 1, 1), ())), 6 * 120)

    def test_places_that_only_a_whole_turning_tells_apart(self):
        chance = random.Random(14)
        # From each place to those that lie 1, 2, 4 further on: no pair shows which way round it is.
        web = Web(7, (0,) * 7, tuple(sorted((0, p, (p + step) % 7) for p in range(7) for step in (1, 2, 4))))
        for _ in range(10):
            self.assertEqual(many_turnings(renamed(web, chance_order(chance, 7))), 21)

    def test_by_words(self):
        for web in [*small_webs(60, 5), *small_webs(10, 6)]:
            found = many_turnings(web)
            self.assertIs(type(found), int)
            self.assertEqual(found, len(turnings_by_words(web, web)))

    def test_the_most_places(self):
        self.assertEqual(many_turnings(path(8)), 2)
        for web in (path(9), bare(40)):
            self.assertEqual(told_error(many_turnings, web), (TooMany, {"most": 8}))


if __name__ == "__main__":
    unittest.main()
