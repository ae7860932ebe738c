"""Holds and plans of twisted webs, and the main fact. (0.2 to 0.5, 6.4; example e07)"""

import unittest

from levelkin.bases import Base, width
from levelkin.colours import alike
from levelkin.errors import NoLevel, NoTie, TooMany
from levelkin.games import is_hold, is_plan
from levelkin.turnings import turning
from levelkin.twists import hold_of, origin, plan_of, shifted, twisted

from tests.second_games import is_hold_by_words, is_plan_by_words
from tests.some_bases import (
    ALONE, CUBE, TRIANGLE, UTILITY, WHEEL, all_pairs, chance_bases, ladder, ring_base, small_bases, star, way,
)
from tests.test_colours import NO_LEVELS
from tests.things import told_error, wrong_things


class Pairs(unittest.TestCase):
    def check(self, base, level):
        one, other = twisted(base, ()), twisted(base, (0,))
        before = (base.many, base.ties)
        held, planned = hold_of(base, level), plan_of(base, level)
        self.assertEqual((base.many, base.ties), before)
        is_wide = width(base) > level
        self.assertEqual(held is not None, is_wide)
        self.assertEqual(planned is None, is_wide)
        self.assertIs(alike(one, other, level), is_wide)
        if is_wide:
            self.assertIs(type(held), dict)
            self.assertIs(is_hold(one, other, level, held), True)
        else:
            self.assertIs(type(planned), dict)
            self.assertIs(is_plan(one, other, level, planned), True)
        return held if is_wide else planned

    def test_widths_and_levels(self):
        for base in (way(2), way(4), star(4), ring_base(4), ring_base(6), TRIANGLE, ladder(3), all_pairs(4)):
            for level in (1, 2, 3):
                self.check(base, level)

    def test_wide_bases(self):
        for base in (CUBE, UTILITY, WHEEL):
            self.assertEqual(width(base), 3)
            self.check(base, 1)
        self.check(UTILITY, 2)
        self.check(all_pairs(5), 1)

    def test_small_bases(self):
        for base in small_bases(4):
            if base.ties:
                self.check(base, 1)
                self.check(base, 2)

    def test_bases_by_chance(self):
        for base in chance_bases(25, 4, 7):
            if told_error(twisted, base, ()) is None:
                self.check(base, 1)

    def test_by_words(self):
        one, other = twisted(TRIANGLE, ()), twisted(TRIANGLE, (0,))
        self.assertTrue(is_hold_by_words(one, other, 1, self.check(TRIANGLE, 1)))
        self.assertTrue(is_plan_by_words(one, other, 2, self.check(TRIANGLE, 2)))
        base = way(3)
        one, other = twisted(base, ()), twisted(base, (0,))
        self.assertTrue(is_plan_by_words(one, other, 1, self.check(base, 1)))

    def test_new_ones_each_time(self):
        found = hold_of(TRIANGLE, 1)
        again = hold_of(TRIANGLE, 1)
        self.assertEqual(found, again)
        found.clear()
        self.assertEqual(hold_of(TRIANGLE, 1), again)
        found = plan_of(TRIANGLE, 2)
        again = plan_of(TRIANGLE, 2)
        self.assertEqual(found, again)
        found.clear()
        self.assertEqual(plan_of(TRIANGLE, 2), again)

    def test_the_example(self):
        base = Base(3, ((0, 1), (0, 2), (1, 2)))
        self.assertEqual((width(base), twisted(base, ()).many, origin(base, 1)), (2, 6, (0, (0, 1))))
        self.assertIsNone(shifted(base, (0,), ()))
        self.assertIs(alike(twisted(base, ()), twisted(base, (0,)), 1), True)
        self.assertIs(alike(twisted(base, ()), twisted(base, (0,)), 2), False)
        self.assertIsNone(turning(twisted(base, ()), twisted(base, (0,))))


class Errors(unittest.TestCase):
    def check(self, base, level, due):
        self.assertEqual(told_error(hold_of, base, level), due)
        self.assertEqual(told_error(plan_of, base, level), due)

    def test_a_base_without_ties(self):
        for level in [1, 2, 3, *NO_LEVELS, *wrong_things()]:
            self.check(ALONE, level, (NoTie, {}))

    def test_wrong_levels(self):
        for level in [*NO_LEVELS, *wrong_things()]:
            self.check(TRIANGLE, level, (NoLevel, {}))
            # More than 40 places, and more than 10000 rows.
            self.check(all_pairs(6), level, (NoLevel, {}))
            self.check(all_pairs(5), level, (NoLevel, {}))

    def test_more_than_40_places(self):
        for base in (all_pairs(6), all_pairs(7)):
            for level in (1, 2, 3):
                self.check(base, level, (TooMany, {"most": 40}))

    def test_more_than_10000_rows(self):
        for base in (all_pairs(5), CUBE, star(7)):
            self.check(base, 3, (TooMany, {"most": 10000}))
        # 17 places: twice 5220 rows; of 16 places twice 4369.
        base = Base(8, tuple(sorted([*ring_base(7).ties, (0, 7)])))
        self.assertEqual(twisted(base, ()).many, 17)
        self.check(base, 3, (TooMany, {"most": 10000}))
        self.assertIsNotNone(plan_of(base, 2))
        self.assertEqual(twisted(ring_base(8), ()).many, 16)
        self.assertIsNotNone(plan_of(ring_base(8), 3))


if __name__ == "__main__":
    unittest.main()
