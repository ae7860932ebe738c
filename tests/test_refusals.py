"""Refusals, and the fifth fact. (0.2 to 0.5, 5.2)"""

import copy
import itertools
import random
import unittest

from levelkin.colours import alike
from levelkin.errors import NoLevel, TooMany
from levelkin.refusals import is_refusal, refusal
from levelkin.webs import Web, beside, renamed

from tests.second_shares import demands_of, is_refusal_by_words
from tests.test_colours import NO_LEVELS
from tests.test_games import pairs_of_webs
from tests.test_portraits import SIX, TWO
from tests.things import PATH, bare, both_ways, path, ring, small_webs, told_error, wrong_things

A = Web(1, (0,), ())
B = Web(1, (1,), ())
# Of webs whose places have hues 0, 0 and 0, 1: place 1 of the other one has no fair pair.
HUES = Web(2, (0, 0), ()), Web(2, (0, 1), ())


class Refusal(unittest.TestCase):
    def check(self, one, other, level, there):
        before = copy.deepcopy((one, other))
        found = refusal(one, other, level)
        self.assertEqual((one, other), before)
        if not there:
            self.assertIsNone(found)
            return None
        self.assertIs(type(found), dict)
        self.assertTrue(all(type(often) is int and often != 0 for often in found.values()))
        self.assertIs(is_refusal(one, other, level, found), True)
        again = refusal(one, other, level)
        self.assertEqual(again, found)
        self.assertIsNot(again, found)
        return found

    def test_just_webs_that_are_not_alike_have_one_by_words(self):
        for one, other in [*pairs_of_webs(12, 3), (bare(2), bare(3)), (PATH, bare(2)), (A, B), (A, bare(3))]:
            for level in (1, 2, 3):
                found = self.check(one, other, level, not alike(one, other, level))
                if found is not None:
                    self.assertIs(is_refusal_by_words(one, other, level, found), True)

    def test_webs_of_four_places(self):
        webs = [web for web in small_webs(30) if web.many == 4] + [ring(4), path(4), bare(4), beside(path(2), path(2))]
        for one, other in itertools.combinations(webs, 2):
            for level in (1, 2, 3):
                self.check(one, other, level, not alike(one, other, level))
        for web in webs:
            self.check(web, renamed(web, (2, 3, 1, 0)), 2, False)

    def test_more_rounds(self):
        self.check(SIX, TWO, 1, False)
        found = self.check(SIX, TWO, 2, True)
        self.assertIs(is_refusal_by_words(SIX, TWO, 2, found), True)
        self.check(ring(8), beside(ring(4), ring(4)), 2, True)
        self.check(ring(7), beside(ring(3), ring(4)), 2, True)
        longer = both_ways(7, [(0, 1), (1, 2), (2, 3), (3, 4), (4, 5), (4, 6)])
        other = both_ways(7, [(0, 1), (1, 2), (2, 3), (3, 4), (3, 5), (5, 6)])
        found = self.check(longer, other, 1, True)
        self.assertIs(is_refusal_by_words(longer, other, 1, found), True)
        self.check(longer, other, 2, True)
        self.check(path(23), both_ways(23, [(p, p + 1) for p in range(21)] + [(20, 22)]), 1, True)

    def test_unlike_numbers_of_places(self):
        for one, other in ((bare(2), bare(3)), (bare(3), bare(2)), (PATH, bare(2)), (Web(2, (0, 1), ()), A),
                           (A, bare(4))):
            for level in (1, 2):
                found = self.check(one, other, level, True)
                self.assertIs(is_refusal_by_words(one, other, level, found), True)
        self.check(bare(23), bare(1), 3, True)
        self.check(bare(2), bare(33), 2, True)
        self.check(bare(14), path(39), 1, True)


class IsRefusal(unittest.TestCase):
    def check(self, one, other, level, thing, due):
        before = copy.deepcopy(thing)
        self.assertIs(is_refusal(one, other, level, thing), due, thing)
        self.assertEqual(thing, before)

    def test_the_example(self):
        self.check(A, B, 1, {((), 0, 0): -1}, True)
        self.check(A, B, 1, {((), 1, 0): -1}, True)
        self.check(A, B, 1, {((), 0, 0): -5, ((), 1, 0): 4}, True)
        self.check(A, B, 1, {((), 0, 0): -5, ((), 1, 0): 5}, False)
        self.check(A, B, 1, {((), 0, 0): 1}, False)
        self.check(A, B, 1, {((), 0, 0): 0}, False)
        self.check(A, A, 1, {((), 0, 0): -1}, False)

    def test_fewer_places_of_a_hue(self):
        one = Web(3, (0, 0, 1), ())
        right = {((), 1, 0): -1, ((), 1, 1): -1, ((), 1, 2): -1, ((), 0, 0): 1, ((), 0, 1): 1}
        self.check(one, bare(3), 1, right, True)
        self.check(one, bare(3), 1, {**right, ((), 0, 2): 1}, False)
        self.check(one, bare(3), 1, {**right, ((), 1, 2): -2}, False)

    def test_sums(self):
        self.check(*HUES, 1, {((), 1, 1): -1}, True)
        self.check(*HUES, 1, {((), 1, 0): -1}, False)
        # Place 0 of other stands in two fair pairs: taken once on its side they are made up for by those of one.
        self.check(*HUES, 1, {((), 0, 0): -1, ((), 0, 1): -1, ((), 1, 0): 1}, True)
        self.check(*HUES, 1, {((), 0, 0): -1, ((), 1, 0): 1}, False)
        self.check(*HUES, 1, {((), 0, 0): -1, ((), 0, 1): -1, ((), 1, 0): 2}, False)
        self.check(*HUES, 1, {((), 0, 0): -1, ((), 0, 1): -2, ((), 1, 0): 2}, True)
        self.check(*HUES, 1, {((), 0, 0): -10 ** 29, ((), 0, 1): -10 ** 29, ((), 1, 0): 10 ** 29}, True)
        self.check(*HUES, 1, {}, False)

    def test_a_place_that_the_match_has_takes_nothing(self):
        match = ((0, 0),)
        self.check(*HUES, 1, {((), 1, 1): -1, (match, 0, 0): -1}, True)
        self.check(*HUES, 1, {((), 1, 1): -1, (match, 1, 0): 7}, True)
        # Of another place: the match itself is taken once, and nothing is fair that comes.
        self.check(*HUES, 1, {((), 1, 1): -1, (match, 0, 1): 1}, False)
        self.check(*HUES, 1, {((), 1, 1): -1, (match, 0, 1): -1}, True)
        self.check(*HUES, 1, {(match, 0, 0): 1}, False)

    def test_one_key_or_value_otherwise(self):
        for one, other, level in ((*HUES, 1), (PATH, ring(3), 1), (SIX, TWO, 2), (bare(2), bare(3), 2)):
            found = refusal(one, other, level)
            for demand in list(found)[:6]:
                match, side, place = demand
                for often in (found[demand] + 1, found[demand] - 1, -found[demand]):
                    thing = {**found, demand: often}
                    self.check(one, other, level, thing, is_refusal_by_words(one, other, level, thing))
                less = {key: found[key] for key in found if key != demand}
                self.check(one, other, level, less, is_refusal_by_words(one, other, level, less))
                moved = {**less, (match, 1 - side, place): found[demand]}
                self.check(one, other, level, moved, is_refusal_by_words(one, other, level, moved))

    def test_changed_refusals_by_words(self):
        chance = random.Random(91)
        judged = {True: 0, False: 0}
        for one, other in [*pairs_of_webs(12, 3), (bare(2), bare(3)), (A, B)]:
            for level in (1, 2):
                found = refusal(one, other, level) or {((), 0, 0): -1}
                demands = list(demands_of(one, other, level))
                for _ in range(4):
                    thing = dict(found)
                    for _ in range(chance.randrange(1, 3)):
                        demand = chance.choice(demands + list(found))
                        thing[demand] = thing.get(demand, 0) + chance.choice([-2, -1, 1, 2])
                    due = is_refusal_by_words(one, other, level, thing)
                    judged[due] += 1
                    self.check(one, other, level, thing, due)
        self.assertGreater(min(judged.values()), 30)

    def test_keys_that_are_none(self):
        right = {((), 1, 1): -1}
        self.check(*HUES, 1, right, True)
        for key in (None, 0, "", (), ((), 0), ((), 0, 0, 0), ((), 2, 0), ((), -1, 0), ((), 0, 2), ((), 0, -1),
                    ((), 1, 2),
                    ((), None, 0), ((), 0, None), ((), "0", 0), (None, 0, 0), (0, 0, 0), ("", 0, 0), ((0, 0), 0, 0),
                    (((0, 1),), 0, 1), (((0, 0), (1, 1)), 0, 0), (((0, 0), (1, 0)), 0, 0), (((0, 2),), 0, 0),
                    (((2, 0),), 0, 0), (((0, 0, 0),), 0, 0), (((0, 0), (0, 0)), 0, 1), (((),), 0, 0),
                    (((None, 0),), 0, 0), ((), (0,), 0), ((), 0, (0,))):
            for often in (1, -1):
                self.check(*HUES, 1, {**right, key: often}, False)
        one = Web(3, (0, 0, 1), ())
        right = {((), 0, 2): -1}
        self.check(one, bare(3), 1, right, True)
        # Two pairs at level 1 are too many, at level 2 they are let; they ascend.
        pairs = ((0, 0), (1, 1))
        for level, key, due in ((1, (pairs, 0, 0), False), (2, (pairs, 0, 0), True), (2, (pairs[::-1], 0, 0), False),
                                (2, (((0, 0), (0, 1)), 0, 1), False)):
            self.check(one, bare(3), level, {**right, key: 1}, due)

    def test_places_of_webs_of_unlike_sizes(self):
        for pair, due in (((1, 2), True), ((2, 0), False), ((0, 3), False), ((2, 2), False), ((0, 0), True)):
            thing = {**refusal(bare(2), bare(3), 1), ((pair,), 0, pair[0]): 1}
            self.check(bare(2), bare(3), 1, thing, due)
            thing = {**refusal(bare(3), bare(2), 1), ((pair[::-1],), 0, pair[1]): 1}
            self.check(bare(3), bare(2), 1, thing, due)
        for side, place, due in ((0, 1, True), (0, 2, False), (1, 2, True), (1, 3, False)):
            right = {((), 0, 0): 1, ((), 0, 1): 1, ((), 1, 0): -1, ((), 1, 1): -1, ((), 1, 2): -1}
            self.check(bare(2), bare(3), 1, {**right, (((0, 0),), side, 0): 1, ((), side, place): (1, -1)[side]}, due)

    def test_values_that_are_none(self):
        for often in [*wrong_things(), 0, True, False, None, "1", (1,), [1], (-1, 1)]:
            if often not in (-1, -(10 ** 30 - 1), 10 ** 30 - 1) or often is True:
                self.assertIs(is_refusal(A, B, 1, {((), 0, 0): often}), False)
                self.assertIs(is_refusal(A, B, 1, {((), 0, 0): -1, ((), 1, 0): often}), False)

    def test_wrong_things(self):
        for thing in [*wrong_things(), [{((), 0, 0): -1}], (((), 0, 0), -1), [((), 0, 0)], ((), 0, 0)]:
            self.assertIs(is_refusal(A, B, 1, thing), False)
            self.assertIs(is_refusal(A, bare(2), 3, thing), False)

    def test_refusals_of_other_levels_and_webs(self):
        found = refusal(SIX, TWO, 2)
        self.check(SIX, TWO, 1, found, False)
        self.check(TWO, SIX, 2, found, False)
        self.check(SIX, SIX, 2, found, False)

    def test_alike_webs_have_none(self):
        for one, other in ((PATH, renamed(PATH, (1, 0, 2))), (A, A), (SIX, TWO)):
            for thing in ({((), 0, 0): -1}, {((), 1, 0): -1}, {((), 0, 0): 1, ((), 1, 0): -1}, {}):
                self.check(one, other, 1, thing, False)


class Errors(unittest.TestCase):
    def test_wrong_levels(self):
        for level in [*NO_LEVELS, *wrong_things()]:
            self.assertEqual(told_error(refusal, PATH, PATH, level), (NoLevel, {}))
            self.assertEqual(told_error(refusal, bare(40), bare(40), level), (NoLevel, {}))
            self.assertEqual(told_error(is_refusal, PATH, PATH, level, {}), (NoLevel, {}))
            self.assertEqual(told_error(is_refusal, bare(40), bare(40), level, None), (NoLevel, {}))

    def test_just_enough_and_just_more(self):
        for level, let, more in ((1, [(14, 39), (23, 23)], [(22, 25), (40, 40)]),
                                 (2, [(2, 33), (8, 8)], [(17, 4), (9, 9)]),
                                 (3, [(1, 23), (23, 1), (4, 4)], [(1, 24), (24, 1), (4, 6), (5, 5)])):
            for many, others in let:
                self.assertIsNone(told_error(is_refusal, bare(many), bare(others), level, {}))
                self.assertEqual(refusal(bare(many), bare(others), level) is None, many == others)
            for many, others in more:
                due = (TooMany, {"most": 300000})
                self.assertEqual(told_error(refusal, bare(many), bare(others), level), due)
                self.assertEqual(told_error(is_refusal, bare(many), bare(others), level, {}), due)
                self.assertEqual(told_error(is_refusal, bare(many), bare(others), level, None), due)


if __name__ == "__main__":
    unittest.main()
