"""Shares. (0.2 to 0.5, 5.1)"""

import copy
import itertools
import math
import random
import unittest

from levelkin.colours import alike
from levelkin.errors import NoLevel, TooMany
from levelkin.refusals import refusal
from levelkin.shares import is_shares, shares
from levelkin.webs import Web, beside, renamed

from tests.second_shares import fair_matches, is_shares_by_words
from tests.test_colours import NO_LEVELS
from tests.test_games import pairs_of_webs
from tests.test_portraits import SIX, TWO
from tests.things import PATH, bare, path, ring, small_webs, told_error, wrong_things

ONE = Web(1, (0,), ())
EVEN = {(): (1, 1), **{((p, q),): (1, 2) for p in range(2) for q in range(2)},
        ((0, 0), (1, 1)): (1, 2), ((0, 1), (1, 0)): (1, 2)}


class Shares(unittest.TestCase):
    def check(self, one, other, level, there):
        before = copy.deepcopy((one, other))
        found = shares(one, other, level)
        self.assertEqual((one, other), before)
        if not there:
            self.assertIsNone(found)
            return None
        self.assertIs(type(found), dict)
        self.assertIs(is_shares(one, other, level, found), True)
        self.assertEqual(found[()], (1, 1))
        for match, (top, bottom) in found.items():
            self.assertEqual((list(match), math.gcd(top, bottom)), (sorted(set(match)), 1))
        again = shares(one, other, level)
        self.assertEqual(again, found)
        self.assertIsNot(again, found)
        return found

    def test_the_example(self):
        self.assertEqual(shares(ONE, ONE, 1), {(): (1, 1), ((0, 0),): (1, 1)})

    def test_just_alike_webs_have_some_by_words(self):
        for one, other in pairs_of_webs(12, 3):
            for level in (1, 2, 3):
                found = self.check(one, other, level, alike(one, other, level))
                if found is not None:
                    self.assertIs(is_shares_by_words(one, other, level, found), True)

    def test_webs_of_four_places(self):
        webs = [web for web in small_webs(40) if web.many == 4] + [ring(4), path(4), bare(4), beside(path(2), path(2))]
        for one, other in itertools.combinations(webs, 2):
            for level in (1, 2, 3):
                self.check(one, other, level, alike(one, other, level))
        for web in webs:
            self.check(web, renamed(web, (2, 3, 1, 0)), 3, True)

    def test_webs_that_are_alike_and_not_the_same(self):
        found = self.check(SIX, TWO, 1, True)
        self.assertIs(is_shares_by_words(SIX, TWO, 1, found), True)
        self.check(SIX, TWO, 2, False)
        self.check(ring(8), beside(ring(3), ring(5)), 1, True)
        self.check(ring(8), renamed(ring(8), (3, 1, 4, 0, 5, 7, 2, 6)), 2, True)

    def test_unlike_numbers_of_places(self):
        for level in (1, 2, 3):
            self.check(bare(2), bare(3), level, False)
            self.check(bare(3), ONE, level, False)

    def test_large_webs(self):
        self.check(ring(23), ring(23), 1, True)


class IsShares(unittest.TestCase):
    def check(self, one, other, level, thing, due):
        before = copy.deepcopy(thing)
        self.assertIs(is_shares(one, other, level, thing), due, thing)
        self.assertEqual(thing, before)

    def test_other_shares_do_as_well(self):
        web = bare(2)
        self.check(web, web, 1, EVEN, True)
        for top in (1, 2, 10 ** 29):
            less, more, whole = top, 10 ** 29 + 3 - top, 10 ** 29 + 3
            self.assertEqual(math.gcd(less, whole), 1)
            told = {(): (1, 1), ((0, 0),): (less, whole), ((1, 1),): (less, whole), ((0, 1),): (more, whole),
                    ((1, 0),): (more, whole), ((0, 0), (1, 1)): (less, whole), ((0, 1), (1, 0)): (more, whole)}
            self.check(web, web, 1, told, True)
            self.check(web, web, 1, {**told, ((0, 1), (1, 0)): (less, whole)}, top * 2 == whole)
        whole = {(): (1, 1), ((0, 0),): (1, 1), ((1, 1),): (1, 1), ((0, 0), (1, 1)): (1, 1)}
        self.check(web, web, 1, whole, True)
        self.check(web, web, 2, whole, True)

    def test_shares_below_nought_that_keep_all_demands(self):
        for top, rest in ((3, -1), (4, -2), (1, 1)):
            told = {**EVEN, ((0, 0),): (top, 2), ((1, 1),): (top, 2), ((0, 0), (1, 1)): (top, 2),
                    ((0, 1),): (rest, 2), ((1, 0),): (rest, 2), ((0, 1), (1, 0)): (rest, 2)}
            self.check(bare(2), bare(2), 1, told, top == 1)
            turned = {match: (-share[0], -share[1]) if share[0] < 0 else share for match, share in told.items()}
            self.check(bare(2), bare(2), 1, turned, top == 1)

    def test_shares_of_nought_that_keep_all_demands(self):
        whole = {(): (1, 1), ((0, 0),): (1, 1), ((1, 1),): (1, 1), ((0, 0), (1, 1)): (1, 1)}
        none = {((0, 1),): (0, 1), ((1, 0),): (0, 1), ((0, 1), (1, 0)): (0, 1)}
        self.check(bare(2), bare(2), 1, whole, True)
        self.check(bare(2), bare(2), 1, {**whole, **none}, False)

    def test_matches_that_are_not_fair_and_keep_all_demands(self):
        web = Web(2, (0, 0), ((0, 0, 1),))
        self.check(web, web, 1, EVEN, False)
        self.check(Web(2, (0, 1), ()), Web(2, (0, 1), ()), 1, EVEN, False)
        self.check(bare(2), Web(2, (0, 0), ((3, 1, 1),)), 1, EVEN, False)

    def test_places_of_webs_of_unlike_sizes(self):
        for pair in ((2, 0), (0, 3), (1, -1), (-1, 1), (2, 2)):
            self.check(bare(2), bare(3), 1, {(): (1, 1), (pair,): (1, 1)}, False)
            self.check(bare(3), bare(2), 1, {(): (1, 1), (pair[::-1],): (1, 1)}, False)

    def test_one_share_otherwise(self):
        for match in EVEN:
            for share in ((1, 1), (2, 4), (0, 1), (0, 2), (-1, 2), (1, -2), (-1, -2), (1, 3), (3, 2), (1, 0),
                          (2, 2), (0, 0)):
                right = share == EVEN[match]
                self.check(bare(2), bare(2), 1, {**EVEN, match: share}, right)

    def test_shares_of_other_kinds(self):
        for share in [*wrong_things(), [1, 2], (1,), (1, 2, 1), (True, 1), (1, True), ("1", 2), (1, None),
                      ((1, 2),), "12",
                      {1: 2}, ((1,), 2)]:
            for match in ((), ((0, 0),), ((0, 0), (1, 1))):
                self.assertIs(is_shares(bare(2), bare(2), 1, {**EVEN, match: share}), False)
        self.check(ONE, ONE, 1, {(): (1, 1), ((0, 0),): (1, True)}, False)
        self.check(ONE, ONE, 1, {(): (True, 1), ((0, 0),): (1, 1)}, False)

    def test_a_match_left_out(self):
        for match in EVEN:
            self.check(bare(2), bare(2), 1, {key: EVEN[key] for key in EVEN if key != match}, False)
        self.check(bare(2), bare(2), 1, {}, False)
        self.check(bare(2), bare(2), 1, {(): (1, 1)}, False)

    def test_a_match_put_in(self):
        web = Web(2, (0, 0), ((0, 0, 1),))
        right = {(): (1, 1), ((0, 0),): (1, 1), ((1, 1),): (1, 1), ((0, 0), (1, 1)): (1, 1)}
        self.check(web, web, 1, right, True)
        for match in (((0, 1),), ((0, 1), (1, 0)), ((1, 1), (0, 0)), ((0, 0), (0, 0)), ((0, 0), (0, 1)),
                      ((0, 0), (1, 0)),
                      ((0, 2),), ((2, 0),), ((-1, 0),), ((0, 0), (1, 1), (1, 1)), (0, 0), ((0,),), ((0, 0, 0),),
                      None, 0,
                      "", "00", ("00",), ((None, 0),), (((0,), 0),), ((),), ((0, 0), ())):
            for share in ((1, 1), (1, 2), (0, 1)):
                self.check(web, web, 1, {**right, match: share}, False)

    def test_matches_with_too_many_pairs(self):
        web = bare(3)
        found = shares(web, web, 2)
        self.assertIs(is_shares(web, web, 2, found), True)
        self.assertEqual(max(len(match) for match in found), 3)
        self.check(web, web, 1, found, False)
        self.check(web, web, 1, {match: share for match, share in found.items() if len(match) < 3}, True)
        self.check(web, web, 2, {match: share for match, share in found.items() if len(match) < 3}, False)
        self.check(web, web, 3, found, True)
        web = bare(4)
        self.check(web, web, 3, shares(web, web, 2), False)
        self.check(web, web, 2, shares(web, web, 3), False)

    def test_changed_shares_by_words(self):
        chance = random.Random(81)
        judged = {True: 0, False: 0}
        for one, other in pairs_of_webs(10, 3):
            for level in (1, 2):
                found = shares(one, other, level)
                fair = fair_matches(one, other, level + 1)
                if found is None:
                    found = {(): (1, 1)}
                for _ in range(3):
                    thing = dict(found)
                    match = chance.choice(fair)
                    if chance.randrange(3):
                        thing[match] = chance.choice([(1, 1), (1, 2), (1, 3), (1, 6)])
                    else:
                        thing.pop(match, None)
                    due = is_shares_by_words(one, other, level, thing)
                    judged[due] += 1
                    self.check(one, other, level, thing, due)
        self.assertGreater(min(judged.values()), 10)

    def test_of_webs_that_are_not_alike(self):
        self.check(ONE, Web(1, (1,), ()), 1, {(): (1, 1)}, False)
        self.check(PATH, ring(3), 1, {(): (1, 1)}, False)
        self.check(bare(2), bare(3), 1, {(): (1, 1)}, False)
        self.check(bare(2), bare(3), 1, EVEN, False)
        self.check(bare(1), bare(2), 1, {(): (1, 1), ((0, 0),): (1, 2), ((0, 1),): (1, 2)}, False)

    def test_a_demand_of_a_match_without_a_share(self):
        # Pairs of pairs have shares although one of the pairs has none.
        thing = {(): (1, 1), ((0, 0),): (1, 1), ((1, 1),): (1, 1), ((0, 0), (1, 1)): (1, 1), ((0, 1), (1, 0)): (1, 1)}
        self.check(bare(2), bare(2), 1, thing, False)

    def test_wrong_things(self):
        for thing in [*wrong_things(), [EVEN], list(EVEN.items()), tuple(EVEN.items())]:
            self.assertIs(is_shares(bare(2), bare(2), 1, thing), False)
            self.assertIs(is_shares(bare(1), bare(2), 3, thing), False)


class Errors(unittest.TestCase):
    def test_wrong_levels(self):
        for level in [*NO_LEVELS, *wrong_things()]:
            self.assertEqual(told_error(shares, PATH, PATH, level), (NoLevel, {}))
            self.assertEqual(told_error(shares, bare(40), bare(40), level), (NoLevel, {}))
            self.assertEqual(told_error(is_shares, PATH, PATH, level, {}), (NoLevel, {}))
            self.assertEqual(told_error(is_shares, bare(40), bare(40), level, None), (NoLevel, {}))

    def test_just_enough_and_just_more(self):
        # 546, 66 and 23 pairs of places are let at level 1, 2, 3.
        for level, let, more in ((1, [(14, 39), (21, 26), (23, 23)], [(22, 25), (25, 22), (40, 40), (16, 35)]),
                                 (2, [(2, 33), (6, 11), (8, 8)], [(17, 4), (4, 17), (2, 34), (7, 10), (9, 9)]),
                                 (3, [(1, 23), (23, 1), (2, 11), (4, 4)], [(1, 24), (24, 1), (3, 8), (4, 6), (5, 5)])):
            for many, others in let:
                self.assertIsNone(told_error(is_shares, bare(many), bare(others), level, {}))
                self.assertIsNone(told_error(is_shares, bare(many), bare(others), level, None))
                if many != others:
                    self.assertIsNone(shares(bare(many), bare(others), level))
            for many, others in more:
                due = (TooMany, {"most": 300000})
                self.assertEqual(told_error(shares, bare(many), bare(others), level), due)
                self.assertEqual(told_error(is_shares, bare(many), bare(others), level, {}), due)
                self.assertEqual(told_error(is_shares, bare(many), bare(others), level, None), due)

    def test_just_one_of_shares_and_a_refusal(self):
        for one, other in pairs_of_webs(20, 4):
            for level in (1, 2, 3):
                self.assertNotEqual(shares(one, other, level) is None, refusal(one, other, level) is None)


if __name__ == "__main__":
    unittest.main()
