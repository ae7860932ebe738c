"""Twisted webs: which they are, where their places come from, and the seventh fact. (0.2 to 0.5, 6.3)"""

import copy
import itertools
import random
import unittest

from levelkin.bases import Base
from levelkin.errors import NoPlace, NoTwists, TooMany
from levelkin.turnings import is_turning, turning
from levelkin.twists import origin, shifted, twisted
from levelkin.webs import Web, renamed

from tests.second_bases import origins_by_words, twisted_by_words
from tests.some_bases import ALONE, CUBE, TRIANGLE, all_pairs, chance_bases, ladder, ring_base, small_bases, star, way
from tests.things import told_error, wrong_things

FULL = (TooMany, {"most": 40})
# Six ties at each of seven places: 7 times 32 places.
LARGE = all_pairs(7)


def lots_below(many):
    return [lot for size in range(many + 1) for lot in itertools.combinations(range(many), size)]


def no_twists(many):
    """Things that are no lots of numbers of so many ties."""
    return [
        *wrong_things(), (many,), (0, many), (-1,), (-1, 0), (0, 0), (1, 0), (0, 1, 1), (2, 1), [0], [0, 1], [],
        (False,), (True,), (0, True), ("0",), (0, None), ((0,),), {0: 0}, {}, range(1), "0", b"\x00", None, 0,
        (0, 10 ** 29), tuple(range(many + 1)),
    ]


class Twisted(unittest.TestCase):
    def check(self, base, twists):
        before = (base.many, base.ties)
        found = twisted(base, twists)
        self.assertEqual(found, twisted_by_words(base, twists))
        self.assertIs(type(found), Web)
        self.assertEqual(twisted(base, twists), found)
        self.assertEqual((base.many, base.ties), before)
        return found

    def test_a_ring_of_three(self):
        web = self.check(TRIANGLE, ())
        self.assertEqual((web.many, web.hues), (6, (0, 0, 1, 1, 2, 2)))
        # Places 0, 2, 4 have no tie, 1, 3, 5 both: two of them are tied if they are alike.
        self.assertEqual({(a, b) for _, a, b in web.ties if a < b}, {(0, 2), (0, 4), (2, 4), (1, 3), (1, 5), (3, 5)})
        web = self.check(TRIANGLE, (0,))
        self.assertEqual({(a, b) for _, a, b in web.ties if a < b}, {(0, 3), (1, 2), (0, 4), (1, 5), (2, 4), (3, 5)})

    def test_small_bases_and_all_lots(self):
        for base in small_bases(4):
            for twists in lots_below(len(base.ties)):
                self.check(base, twists)

    def test_large_ones(self):
        self.assertEqual(self.check(CUBE, ()).many, 32)
        self.assertEqual(self.check(CUBE, (0, 5, 11)).many, 32)
        self.assertEqual(self.check(all_pairs(5), (3,)).many, 40)
        self.assertEqual(self.check(star(7), (1, 2)).many, 38)
        self.assertEqual(self.check(ring_base(8), tuple(range(8))).many, 16)

    def test_a_base_without_ties(self):
        self.assertEqual(twisted(ALONE, ()), Web(1, (0,), ()))
        for thing in [(0,), (1,), (-1,), [], None]:
            self.assertEqual(told_error(twisted, ALONE, thing), (NoTwists, {}))

    def test_40_places_and_more(self):
        more = Base(5, tuple(tie for tie in all_pairs(5).ties))
        self.assertEqual(twisted(more, ()).many, 40)
        chance = random.Random(84)
        seen = {True: 0, False: 0}
        for base in chance_bases(120, 4, 8):
            many = sum(2 ** (sum(p in tie for tie in base.ties) - 1) for p in range(base.many))
            twists = tuple(sorted(chance.sample(range(len(base.ties)), chance.randrange(len(base.ties)))))
            seen[many > 40] += 1
            if many > 40:
                self.assertEqual(told_error(twisted, base, twists), FULL)
                self.assertEqual(told_error(origin, base, 0), FULL)
                self.assertEqual(told_error(shifted, base, twists, ()), FULL)
            else:
                self.check(base, twists)
        self.assertGreater(min(seen.values()), 15)

    def test_wrong_twists(self):
        for thing in no_twists(3):
            if type(thing) is tuple and thing == ():
                continue
            self.assertEqual(told_error(twisted, TRIANGLE, thing), (NoTwists, {}), thing)

    def test_wrong_twists_ahead_of_too_many(self):
        for thing in ((21,), (1, 0), [0], None, (True,), "0"):
            self.assertEqual(told_error(twisted, LARGE, thing), (NoTwists, {}))
            self.assertEqual(told_error(shifted, LARGE, thing, ()), (NoTwists, {}))
            self.assertEqual(told_error(shifted, LARGE, (), thing), (NoTwists, {}))
        self.assertEqual(told_error(twisted, LARGE, (20,)), FULL)
        self.assertEqual(told_error(shifted, LARGE, (20,), ()), FULL)


class Origin(unittest.TestCase):
    def test_of_each_place(self):
        for base in [*small_bases(4), CUBE, all_pairs(5), star(7), ladder(4)]:
            pairs = origins_by_words(base)
            self.assertEqual([origin(base, place) for place in range(len(pairs))], pairs)
            self.assertEqual(twisted(base, ()).hues, tuple(v for v, _ in pairs))

    def test_examples(self):
        self.assertEqual(origin(TRIANGLE, 1), (0, (0, 1)))
        self.assertEqual([origin(TRIANGLE, place) for place in range(6)],
                         [(0, ()), (0, (0, 1)), (1, ()), (1, (0, 2)), (2, ()), (2, (1, 2))])
        self.assertEqual(origin(ALONE, 0), (0, ()))
        # Lots ascend as Python orders tuples: (0, 1) is ahead of (0, 1, 2, 3) and that ahead of (0, 2).
        self.assertEqual([origin(star(5), place)[1] for place in range(8)],
                         [(), (0, 1), (0, 1, 2, 3), (0, 2), (0, 3), (1, 2), (1, 3), (2, 3)])

    def test_of_what_is_no_place(self):
        for thing in [*wrong_things(), 6, 7, -1, -6, True, False, (0,), "0", (0, ()), 10 ** 29, None]:
            self.assertEqual(told_error(origin, TRIANGLE, thing), (NoPlace, {}))
            self.assertEqual(told_error(origin, LARGE, thing), FULL)
        self.assertEqual(told_error(origin, ALONE, 1), (NoPlace, {}))


class Shifted(unittest.TestCase):
    def check(self, base, one, other):
        before = copy.deepcopy((one, other))
        order = shifted(base, one, other)
        self.assertEqual((one, other), before)
        if (len(one) + len(other)) % 2:
            self.assertIsNone(order)
            return
        mine, yours = twisted(base, one), twisted(base, other)
        self.assertEqual(sorted(order), list(range(mine.many)))
        self.assertIs(type(order), tuple)
        self.assertEqual(renamed(mine, order), yours)
        self.assertIs(is_turning(mine, yours, order), True)
        self.assertEqual(shifted(base, one, other), order)

    def test_all_lots_of_small_bases(self):
        for base in small_bases(3):
            for one in lots_below(len(base.ties)):
                for other in lots_below(len(base.ties)):
                    self.check(base, one, other)
        for base in (all_pairs(4), ring_base(4), way(4), star(4)):
            for one in lots_below(len(base.ties))[::3]:
                for other in lots_below(len(base.ties))[::2]:
                    self.check(base, one, other)

    def test_large_bases(self):
        chance = random.Random(85)
        for base in (CUBE, all_pairs(5), star(7), ladder(4), ring_base(8), way(8)):
            for _ in range(12):
                many = len(base.ties)
                one, other = [tuple(sorted(chance.sample(range(many), chance.randrange(many + 1)))) for _ in range(2)]
                self.check(base, one, other)

    def test_bases_by_chance(self):
        chance = random.Random(86)
        for base in chance_bases(80, 2, 8):
            if told_error(twisted, base, ()) is None:
                many = len(base.ties)
                one, other = [tuple(sorted(chance.sample(range(many), chance.randrange(many + 1)))) for _ in range(2)]
                self.check(base, one, other)

    def test_odd_ones_are_not_the_same_at_all(self):
        for base in small_bases(4):
            if base.ties and twisted(base, ()).many <= 12:
                for twists in lots_below(len(base.ties))[::4]:
                    found = turning(twisted(base, twists), twisted(base, (0,)))
                    self.assertEqual(found is None, len(twists) % 2 == 0)
                    self.assertEqual(shifted(base, twists, (0,)) is None, len(twists) % 2 == 0)

    def test_a_base_without_ties(self):
        self.assertEqual(shifted(ALONE, (), ()), (0,))

    def test_of_the_example(self):
        self.assertIsNone(shifted(TRIANGLE, (0,), ()))
        self.assertIsNone(shifted(TRIANGLE, (), (2,)))
        self.check(TRIANGLE, (0,), (2,))
        self.check(TRIANGLE, (), (1, 2))

    def test_wrong_twists(self):
        for thing in no_twists(3):
            if type(thing) is tuple and thing == ():
                continue
            for other in ((), (0,), (0, 1, 2), thing):
                self.assertEqual(told_error(shifted, TRIANGLE, thing, other), (NoTwists, {}))
                self.assertEqual(told_error(shifted, TRIANGLE, other, thing), (NoTwists, {}))


if __name__ == "__main__":
    unittest.main()
