"""Holds, plans, fewest rounds, and the fourth fact. (0.2 to 0.5, 4.1 to 4.3)"""

import copy
import itertools
import random
import unittest

from levelkin.colours import alike
from levelkin.errors import NoLevel, TooMany
from levelkin.games import fewest, hold, is_hold, is_plan, plan
from levelkin.partings import parting
from levelkin.sayings import depth
from levelkin.webs import Web, beside, renamed

from tests.second_games import fewest_by_words, is_hold_by_words, is_plan_by_words
from tests.test_colours import NO_LEVELS
from tests.test_portraits import ROOK, SIX, TORUS, TWO
from tests.things import PATH, bare, both_ways, path, ring, small_webs, told_error, wrong_things

BEGIN = ((), ())
ALL_OF_PATH = {BEGIN: (0, 1, 2), ((0,), (0,)): (0, 1, 2), ((1,), (1,)): (0, 1, 2), ((2,), (2,)): (0, 1, 2)}
HUES = Web(2, (0, 0), ()), Web(2, (0, 1), ())
CALLS = (hold, plan, fewest)


def pairs_of_webs(times, most):
    """Pairs of small webs with as many places, alike and not."""
    webs = [web for web in small_webs(times, most)]
    chance = random.Random(61)
    for web in webs:
        order = list(range(web.many))
        chance.shuffle(order)
        yield web, renamed(web, tuple(order))
    for one, other in itertools.combinations(webs, 2):
        if one.many == other.many:
            yield one, other
    yield from [(PATH, ring(3)), (PATH, renamed(PATH, (2, 0, 1))), (bare(3), bare(3)), (ring(4), path(4)),
                (ring(4), both_ways(4, [(0, 1), (2, 3)]))]


class Hold(unittest.TestCase):
    def check(self, one, other, level, there):
        before = copy.deepcopy((one, other))
        found = hold(one, other, level)
        self.assertEqual((one, other), before)
        if not there:
            self.assertIsNone(found)
            return None
        self.assertIs(type(found), dict)
        self.assertIs(is_hold(one, other, level, found), True)
        again = hold(one, other, level)
        self.assertEqual(again, found)
        self.assertIsNot(again, found)
        return found

    def test_just_alike_webs_have_one_by_words(self):
        for one, other in pairs_of_webs(16, 3):
            for level in (1, 2, 3):
                found = self.check(one, other, level, alike(one, other, level))
                if found is not None:
                    self.assertIs(is_hold_by_words(one, other, level, found), True)

    def test_webs_that_are_alike_and_not_the_same(self):
        found = self.check(SIX, TWO, 1, True)
        self.assertIs(is_hold_by_words(SIX, TWO, 1, found), True)
        self.check(SIX, TWO, 2, False)
        self.check(beside(ring(3), ring(5)), ring(8), 1, True)
        found = self.check(ROOK, TORUS, 2, True)
        self.assertIs(is_hold(TORUS, ROOK, 2, found), False)
        self.check(ROOK, TORUS, 3, False)

    def test_large_webs_that_are_the_same(self):
        chance = random.Random(62)
        for web, level in ((ring(40), 1), (ring(30), 2), (beside(ring(6), bare(20)), 2), (path(12), 3)):
            order = list(range(web.many))
            chance.shuffle(order)
            self.check(web, renamed(web, tuple(order)), level, True)

    def test_unlike_numbers_of_places(self):
        for level in (1, 2, 3):
            self.check(bare(2), bare(3), level, False)
            self.check(bare(3), bare(1), level, False)


class IsHold(unittest.TestCase):
    def check(self, one, other, level, thing, due):
        before = copy.deepcopy(thing)
        self.assertIs(is_hold(one, other, level, thing), due)
        self.assertEqual(thing, before)

    def test_the_example(self):
        self.check(PATH, PATH, 1, ALL_OF_PATH, True)

    def test_a_standing_left_out_put_in_or_with_another_order(self):
        for standing in ALL_OF_PATH:
            less = {key: ALL_OF_PATH[key] for key in ALL_OF_PATH if key != standing}
            self.check(PATH, PATH, 1, less, False)
            for order in itertools.permutations(range(3)):
                self.check(PATH, PATH, 1, {**less, standing: order}, is_hold_by_words(
                    PATH, PATH, 1, {**less, standing: order}))
        ends = {((0,), (2,)): (2, 1, 0), ((2,), (0,)): (2, 1, 0)}
        self.check(PATH, PATH, 1, {**ALL_OF_PATH, **ends}, True)
        self.check(PATH, PATH, 1, {**ALL_OF_PATH, ((0,), (2,)): (2, 1, 0)}, False)
        self.check(PATH, PATH, 1, {**ALL_OF_PATH, **ends, ((0,), (2,)): (0, 1, 2)}, False)
        # Its looks are unlike: the first has won whatever is told.
        self.check(PATH, Web(3, (1, 0, 0), ()), 1, {BEGIN: (0, 1, 2)}, False)

    def test_standings_with_unlike_looks(self):
        self.check(*HUES, 1, {BEGIN: (0, 1)}, False)
        one = Web(2, (0, 1), ())
        right = {BEGIN: (0, 1), ((0,), (0,)): (0, 1), ((1,), (1,)): (0, 1)}
        self.check(one, one, 1, right, True)
        self.check(one, one, 1, {**right, ((0,), (1,)): (0, 1)}, False)
        self.check(one, one, 1, {**right, ((0,), (1,)): (1, 0)}, False)

    def test_changed_holds_by_words(self):
        chance = random.Random(63)
        judged = {True: 0, False: 0}
        for one, other in pairs_of_webs(14, 3):
            for level in (1, 2):
                found = hold(one, other, level)
                if found is None:
                    continue
                rows = [row for size in range(level + 1) for row in itertools.product(range(one.many), repeat=size)]
                for _ in range(6):
                    thing = dict(found)
                    order = list(range(one.many))
                    chance.shuffle(order)
                    at = chance.choice(list(found))
                    change = chance.randrange(4)
                    if change == 0:
                        thing.pop(at)
                    elif change == 1:
                        thing[at] = tuple(order)
                    else:
                        mine = chance.choice(rows)
                        thing[mine, chance.choice([row for row in rows if len(row) == len(mine)])] = tuple(order)
                    due = is_hold_by_words(one, other, level, thing)
                    judged[due] += 1
                    self.check(one, other, level, thing, due)
        self.assertGreater(min(judged.values()), 30)

    def test_keys_and_values_that_are_none(self):
        for key in (None, 0, "()", (), ((),), ((), (), ()), ((0,), ()), ((), (0,)), ((3,), (0,)), ((0,), (3,)),
                    ((-1,), (0,)),
                    ((0, 0), (0, 0)), (0, 0), ("", ""), ((None,), (0,)), (((0,),), ((0,),)), ((0,), (0,), (0,))):
            self.check(PATH, PATH, 1, {**ALL_OF_PATH, key: (0, 1, 2)}, False)
        for value in [*wrong_things(), [0, 1, 2], (0, 1), (0, 1, 2, 3), (0, 1, 1), (0, 1, True), (0, 2, -1),
                      ((0, 1, 2),),
                      (False, 1, 2), "012"]:
            self.assertIs(is_hold(PATH, PATH, 1, {**ALL_OF_PATH, ((0,), (0,)): value}), False)
            self.assertIs(is_hold(PATH, PATH, 1, {**ALL_OF_PATH, BEGIN: value}), False)

    def test_wrong_things(self):
        for thing in [*wrong_things(), [ALL_OF_PATH], list(ALL_OF_PATH.items()), tuple(ALL_OF_PATH.items())]:
            self.assertIs(is_hold(PATH, PATH, 1, thing), False)
            self.assertIs(is_hold(bare(1), bare(2), 1, thing), False)

    def test_unlike_numbers_of_places(self):
        for thing in ({}, {BEGIN: (0, 1)}, {BEGIN: (0,)}, {BEGIN: (0,), ((0,), (0,)): (0,)}):
            self.check(bare(1), bare(2), 1, thing, False)
            self.check(bare(2), bare(1), 1, thing, False)

    def test_holds_of_other_levels(self):
        found = hold(PATH, PATH, 2)
        self.check(PATH, PATH, 2, found, True)
        self.check(PATH, PATH, 1, found, False)
        self.check(PATH, PATH, 3, found, False)


class Plan(unittest.TestCase):
    def check(self, one, other, level, rounds):
        before = copy.deepcopy((one, other))
        found = plan(one, other, level)
        self.assertEqual(fewest(one, other, level), rounds)
        self.assertEqual((one, other), before)
        if rounds is None:
            self.assertIsNone(found)
            return None
        self.assertIs(type(found), dict)
        self.assertIs(is_plan(one, other, level, found), True)
        if one.many == other.many:
            self.assertEqual(found[BEGIN][0], rounds)
        else:
            self.assertEqual((found, rounds), ({}, 0))
        again = plan(one, other, level)
        self.assertEqual(again, found)
        self.assertIsNot(again, found)
        return found

    def test_the_examples(self):
        self.assertEqual(fewest(SIX, TWO, 2), 3)
        self.assertIsNone(plan(SIX, TWO, 1))
        self.check(SIX, TWO, 2, 3)
        self.check(SIX, TWO, 1, None)

    def test_of_fewest_rounds_by_words(self):
        judged = {}
        for one, other in pairs_of_webs(16, 3):
            for level in (1, 2):
                rounds = fewest_by_words(one, other, level)
                judged[rounds] = judged.get(rounds, 0) + 1
                found = self.check(one, other, level, rounds)
                if found is not None:
                    self.assertIs(is_plan_by_words(one, other, level, found), True)
        self.assertTrue({None, 1, 2} <= set(judged))
        for one, other in list(pairs_of_webs(8, 3))[::4]:
            self.check(one, other, 3, fewest_by_words(one, other, 3))

    def test_more_rounds_by_words(self):
        for one, other in ((path(4), both_ways(4, [(0, 1), (2, 3)])),
                           (path(5), both_ways(5, [(0, 1), (1, 2), (2, 0), (3, 4)])),
                           (path(5), both_ways(5, [(0, 1), (1, 2), (2, 3), (2, 4)]))):
            self.check(one, other, 1, fewest_by_words(one, other, 1))

    def test_just_one_of_a_hold_and_a_plan_is_there(self):
        for one, other in pairs_of_webs(14, 5):
            for level in (1, 2, 3):
                self.assertEqual(plan(one, other, level) is None, alike(one, other, level))
                self.assertEqual(hold(one, other, level) is None, not alike(one, other, level))

    def test_rounds_are_the_depth_of_a_parting_saying(self):
        longer = both_ways(8, [(0, 1), (1, 2), (2, 3), (3, 4), (4, 5), (5, 6), (5, 7)])
        other = both_ways(8, [(0, 1), (1, 2), (2, 3), (3, 4), (4, 5), (4, 6), (6, 7)])
        for level in (1, 2, 3):
            self.check(longer, other, level, depth(parting(longer, other, level)))
        self.check(ROOK, TORUS, 3, 4)
        self.check(ROOK, TORUS, 2, None)
        self.check(ring(12), beside(ring(6), ring(6)), 2, depth(parting(ring(12), beside(ring(6), ring(6)), 2)))

    def test_unlike_numbers_of_places(self):
        for level in (1, 2, 3):
            self.check(bare(2), bare(3), level, 0)
            self.check(ring(5), bare(1), level, 0)


class IsPlan(unittest.TestCase):
    def check(self, one, other, level, thing, due):
        before = copy.deepcopy(thing)
        self.assertIs(is_plan(one, other, level, thing), due)
        self.assertEqual(thing, before)

    def test_looks_alone(self):
        for lots, due in ((((0,), ()), False), (((1,), ()), False), (((0, 1), (0,)), True), (((0, 1), (1,)), False),
                          (((0, 1), ()), False), (((0,), (0,)), False), (((), ()), False), (((0, 1), (0, 1)), False)):
            self.check(*HUES, 1, {BEGIN: (1, *lots)}, due)
            self.check(*HUES, 1, {BEGIN: (10 ** 29, *lots)}, due)
            self.check(*HUES, 1, {BEGIN: (0, *lots)}, False)
            self.check(*HUES, 1, {BEGIN: (-1, *lots)}, False)
            self.check(*HUES, 1, {BEGIN: (True, *lots)}, False)
        self.check(HUES[1], HUES[0], 1, {BEGIN: (1, (1,), ())}, True)
        self.check(HUES[1], HUES[0], 1, {BEGIN: (1, (0,), ())}, False)

    def test_what_is_no_lot_where_a_lot_would_do(self):
        one, other = Web(3, (0, 0, 0), ()), Web(3, (0, 1, 1), ())
        for mine, yours, due in (((0, 1, 2), (0,), True), ((0, 1, 2), [0], False), ((0, 1, 2), (False,), False),
                                 ((0, 1, 2), (0, 0), False), ((0, 1, 2), (0, 3), False), ((0, 1, 2), (-1, 0), False),
                                 ((0, 1, 2), (1, 0), False), ((0, 1, 2), (0, 1), True), ((0, 1, 2), {0: 0}, False),
                                 ((0, 1), (0,), True), ((1, 0), (0,), False), ([0, 1], (0,), False),
                                 ((0, 0), (0,), False),
                                 ((0, True), (0,), False), ((0, 1, 1), (0,), False), ({0: 0, 1: 1}, (0,), False),
                                 (range(2), (0,), False), ((0, 2), (0,), True), ((0, 2), range(1), False)):
            self.check(one, other, 1, {BEGIN: (1, mine, yours)}, due)

    def test_rounds_must_be_less(self):
        found = plan(SIX, TWO, 2)
        self.check(SIX, TWO, 2, found, True)
        for standing, (rounds, mine, yours) in found.items():
            for other in (rounds - 1, rounds + 1, rounds + 7):
                thing = {**found, standing: (other, mine, yours)}
                self.check(SIX, TWO, 2, thing, is_plan_by_words(SIX, TWO, 2, thing))
        more = {standing: (rounds + 5, mine, yours) for standing, (rounds, mine, yours) in found.items()}
        self.check(SIX, TWO, 2, more, True)
        alike_ones = {standing: (2, mine, yours) for standing, (rounds, mine, yours) in found.items()}
        self.check(SIX, TWO, 2, alike_ones, False)

    def test_a_standing_left_out(self):
        found = plan(SIX, TWO, 2)
        for standing in found:
            thing = {key: found[key] for key in found if key != standing}
            self.check(SIX, TWO, 2, thing, is_plan_by_words(SIX, TWO, 2, thing))
        self.check(SIX, TWO, 2, {key: found[key] for key in found if key != BEGIN}, False)

    def test_changed_plans_by_words(self):
        chance = random.Random(64)
        judged = {True: 0, False: 0}
        for one, other in [*pairs_of_webs(14, 3), (SIX, TWO)]:
            for level in (1, 2, 3):
                found = plan(one, other, level)
                if found is None:
                    continue
                places = range(one.many)
                rows = [row for size in range(level + 1) for row in itertools.product(places, repeat=size)]
                for _ in range(5):
                    thing = dict(found)
                    at = chance.choice(list(found))
                    mine = tuple(sorted(chance.sample(places, chance.randrange(1, one.many + 1))))
                    yours = tuple(sorted(chance.sample(places, chance.randrange(one.many + 1))))
                    change = chance.randrange(5)
                    if change == 0:
                        thing.pop(at)
                    elif change == 1:
                        thing[at] = (thing[at][0], mine, thing[at][2])
                    elif change == 2:
                        thing[at] = (thing[at][0], *sorted([mine, yours], key=len, reverse=True))
                    else:
                        row = chance.choice(rows)
                        pair = row, chance.choice([other_row for other_row in rows if len(other_row) == len(row)])
                        thing[pair] = (chance.randrange(1, 4), *sorted([mine, yours], key=len, reverse=True))
                    due = is_plan_by_words(one, other, level, thing)
                    judged[due] += 1
                    self.check(one, other, level, thing, due)
        self.assertGreater(min(judged.values()), 30)

    def test_keys_and_values_that_are_none(self):
        found = plan(PATH, ring(3), 1)
        entry = found[BEGIN]
        self.check(PATH, ring(3), 1, found, True)
        for key in (None, 0, "()", (), ((),), ((), (), ()), ((0,), ()), ((3,), (0,)), ((0,), (3,)),
                    ((0, 0), (0, 0)), (0, 0),
                    ((None,), (0,)), ((0,), (0,), (0,)), ((-1,), (0,))):
            self.check(PATH, ring(3), 1, {**found, key: entry}, False)
        for value in [*wrong_things(), [1, (0,), ()], (1, (0,)), (1, (0,), (), ()), (1, [0], ()), (1, (0,), []),
                      ("1", (0,), ()),
                      (1, (0, 0), ()), (1, (1, 0), ()), (1, (3,), ()), (1, (-1,), ()), (1, (True,), ()),
                      (1, (0, 1), (3,)),
                      (1, (0, 1), (False,)), (1, (0, 1, 2), (1, 0)), (None, (0,), ()), (1, 0, 0), (1, "0", ""),
                      ((1,), (0,), ()), (1, {0: 0}, {})]:
            self.assertIs(is_plan(PATH, ring(3), 1, {**found, ((0,), (0,)): value}), False)
            self.assertIs(is_plan(PATH, ring(3), 1, {**found, BEGIN: value}), False)

    def test_wrong_things(self):
        found = plan(PATH, ring(3), 1)
        for thing in [*wrong_things(), [found], list(found.items()), tuple(found.items()), list(found)]:
            self.assertIs(is_plan(PATH, ring(3), 1, thing), False)
            self.assertIs(is_plan(PATH, PATH, 1, thing), False)
            self.assertIs(is_plan(bare(1), bare(2), 1, thing), thing == {} and isinstance(thing, dict))

    def test_unlike_numbers_of_places(self):
        self.check(bare(1), bare(2), 1, {}, True)
        self.check(bare(3), bare(2), 3, {}, True)
        self.check(bare(3), bare(2), 3, {BEGIN: (1, (0,), ())}, False)
        self.check(bare(2), bare(3), 3, {BEGIN: (1, (0,), ())}, False)
        self.check(bare(3), bare(3), 3, {}, False)
        self.check(*HUES, 1, {}, False)

    def test_standings_that_no_play_comes_to(self):
        found = plan(*HUES, 1)
        # Rows with unlike looks, and rows in which a place comes twice.
        self.check(*HUES, 1, {**found, ((0,), (1,)): (1, (0,), ())}, True)
        self.check(*HUES, 1, {**found, ((0,), (0,)): (1, (0,), ())}, False)
        found = plan(*HUES, 2)
        self.check(*HUES, 2, {**found, ((0, 0), (0, 1)): (1, (0, 1), ())}, True)
        self.check(*HUES, 2, {**found, ((0, 0), (0, 0)): (1, (0, 1), ())}, False)

    def test_alike_webs_have_none(self):
        self.check(PATH, PATH, 1, {BEGIN: (1, (0,), ())}, False)
        self.check(PATH, PATH, 1, {}, False)


class Errors(unittest.TestCase):
    def test_wrong_levels(self):
        for level in [*NO_LEVELS, *wrong_things()]:
            for call in CALLS:
                self.assertEqual(told_error(call, PATH, PATH, level), (NoLevel, {}))
                self.assertEqual(told_error(call, bare(40), bare(3), level), (NoLevel, {}))
            for call in (is_hold, is_plan):
                self.assertEqual(told_error(call, PATH, PATH, level, ALL_OF_PATH), (NoLevel, {}))
                self.assertEqual(told_error(call, bare(40), bare(3), level, None), (NoLevel, {}))

    def test_the_most_rows(self):
        for one, other in ((bare(7), bare(21)), (bare(17), bare(17)), (bare(22), bare(1))):
            for call in CALLS:
                self.assertEqual(told_error(call, one, other, 3), (TooMany, {"most": 10000}))
            for call in (is_hold, is_plan):
                self.assertEqual(told_error(call, one, other, 3, None), (TooMany, {"most": 10000}))
                self.assertEqual(told_error(call, one, other, 3, {}), (TooMany, {"most": 10000}))
        self.assertEqual([fewest(bare(6), bare(21), 3), plan(bare(6), bare(21), 3), hold(bare(6), bare(21), 3)],
                         [0, {}, None])
        self.assertIs(is_plan(bare(6), bare(21), 3, {}), True)
        self.assertIs(is_hold(bare(6), bare(21), 3, {}), False)


if __name__ == "__main__":
    unittest.main()
