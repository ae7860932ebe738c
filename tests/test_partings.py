"""Sayings that part webs, sayings that mark colours, and the third fact. (0.2 to 0.5, 3.3)"""

import copy
import itertools
import random
import unittest

from levelkin.colours import alike, colouring
from levelkin.errors import NoLevel, NoNumber, NoWebs, TooMany
from levelkin.partings import is_parting, marks, parting
from levelkin.sayings import depth, free, holds, is_saying, names, turned
from levelkin.webs import Web, beside, renamed

from tests.second import rounds_by_words
from tests.second_sayings import chance_sayings, holds_by_words
from tests.test_colours import NO_LEVELS
from tests.test_portraits import ROOK, SIX, TORUS, TWO
from tests.things import PATH, bare, both_ways, path, ring, small_webs, told_error, wrong_things


def least_round(one, other, level):
    """The least round in which the rows without places have unlike colours, or None."""
    for turn, tables in enumerate(rounds_by_words([one, other], level, 6)):
        if tables[0][()] != tables[1][()]:
            return turn
    return None


class Parting(unittest.TestCase):
    def check(self, one, other, level, least):
        before = copy.deepcopy((one, other))
        for this, that in ((one, other), (other, one)):
            saying = parting(this, that, level)
            self.assertEqual(parting(this, that, level), saying)
            if least is None:
                self.assertIsNone(saying)
            else:
                self.assertIs(is_saying(saying), True)
                self.assertEqual(free(saying), ())
                self.assertTrue(all(name <= level for name in names(saying)))
                self.assertIs(holds(this, saying, {}), True)
                self.assertIs(holds(that, saying, {}), False)
                self.assertEqual(depth(saying), least)
                self.assertIs(is_parting(this, that, level, saying), True)
                self.assertIs(is_parting(that, this, level, saying), False)
        self.assertEqual((one, other), before)

    def test_the_example(self):
        self.assertIsNone(parting(SIX, TWO, 1))
        self.assertEqual(depth(parting(SIX, TWO, 2)), 3)
        self.check(SIX, TWO, 1, None)
        self.check(SIX, TWO, 2, 3)

    def test_small_webs_by_words(self):
        webs = [*small_webs(10, 3), PATH, ring(3), bare(2), renamed(PATH, (1, 0, 2))]
        for one, other in itertools.combinations(webs, 2):
            for level in (1, 2):
                self.check(one, other, level, least_round(one, other, level))
        for one, other in itertools.combinations(webs[::3], 2):
            self.check(one, other, 3, least_round(one, other, 3))

    def test_just_webs_that_are_not_alike_are_parted(self):
        webs = [*small_webs(24, 5), path(5), ring(5), ring(4), path(4), both_ways(4, [(0, 1), (2, 3)])]
        for one, other in zip(webs, [*webs[1:], webs[0]]):
            for level in (1, 2, 3):
                self.assertEqual(parting(one, other, level) is None, alike(one, other, level))
            self.check(one, renamed(one, tuple(reversed(range(one.many)))), 2, None)

    def test_more_rounds(self):
        longer = both_ways(8, [(0, 1), (1, 2), (2, 3), (3, 4), (4, 5), (5, 6), (5, 7)])
        other = both_ways(8, [(0, 1), (1, 2), (2, 3), (3, 4), (4, 5), (4, 6), (6, 7)])
        self.check(longer, other, 1, least_round(longer, other, 1))
        self.check(longer, other, 2, least_round(longer, other, 2))
        self.check(ring(8), beside(ring(4), ring(4)), 1, None)
        for one, other in ((ring(8), beside(ring(4), ring(4))), (ring(7), beside(ring(3), ring(4)))):
            self.check(one, other, 2, least_round(one, other, 2))

    def test_webs_that_need_three_places_at_a_time(self):
        self.check(ROOK, TORUS, 2, None)
        saying = parting(ROOK, TORUS, 3)
        self.assertIs(is_parting(ROOK, TORUS, 3, saying), True)
        self.assertIs(is_parting(TORUS, ROOK, 3, parting(TORUS, ROOK, 3)), True)
        self.assertEqual(depth(saying), 4)

    def test_unlike_numbers_of_places(self):
        for level in (1, 2, 3):
            self.check(bare(2), bare(3), level, 1)
            self.check(bare(1), bare(2), level, 1)
        self.check(ring(5), ring(6), 1, 1)
        self.check(bare(39), bare(40), 1, 1)
        self.check(Web(2, (0, 1), ()), Web(3, (0, 1, 2), ()), 2, 1)

    def test_hues_loops_and_kinds(self):
        self.check(Web(1, (0,), ()), Web(1, (1,), ()), 1, 1)
        self.check(Web(1, (0,), ((1, 0, 0),)), Web(1, (0,), ((2, 0, 0),)), 1, 1)
        self.check(Web(1, (0,), ()), Web(1, (0,), ((0, 0, 0),)), 3, 1)
        self.check(Web(2, (0, 0), ((0, 0, 1),)), Web(2, (0, 0), ((0, 0, 1), (0, 1, 0))), 1, 2)
        self.check(Web(2, (0, 1), ((0, 0, 1),)), Web(2, (0, 1), ((0, 1, 0),)), 1, 2)

    def test_the_most_rows(self):
        self.assertIsNotNone(parting(bare(6), path(21), 3))
        self.assertEqual(told_error(parting, bare(7), bare(21), 3), (TooMany, {"most": 10000}))
        self.assertEqual(told_error(parting, bare(1), bare(22), 3), (TooMany, {"most": 10000}))
        self.check(path(40), both_ways(40, [(p, p + 1) for p in range(38)] + [(37, 39)]), 1, 2)

    def test_wrong_levels(self):
        for level in [*NO_LEVELS, *wrong_things()]:
            self.assertEqual(told_error(parting, PATH, PATH, level), (NoLevel, {}))
            self.assertEqual(told_error(parting, bare(40), bare(40), level), (NoLevel, {}))


class IsParting(unittest.TestCase):
    def check(self, one, other, level, thing, due):
        before = copy.deepcopy(thing) if isinstance(thing, tuple) else None
        self.assertIs(is_parting(one, other, level, thing), due)
        if before is not None:
            self.assertEqual(thing, before)

    def test_deeper_sayings(self):
        saying = parting(SIX, TWO, 2)
        deeper = (*saying, ("many", 1, 1, len(saying) - 1), ("many", 2, 6, len(saying)), ("not", len(saying) + 1),
                  ("not", len(saying) + 2))
        self.check(SIX, TWO, 2, deeper, True)
        self.check(TWO, SIX, 2, deeper, False)
        self.check(TWO, SIX, 2, deeper[:-1], True)

    def test_sayings_with_free_names(self):
        hues = Web(1, (1,), ()), Web(1, (0,), ())
        self.check(*hues, 1, (("hue", 0, 1),), False)
        self.check(*hues, 1, (("hue", 0, 1), ("many", 0, 1, 0)), True)
        self.check(*hues, 1, (("hue", 0, 1), ("many", 1, 1, 0)), False)
        self.check(*hues, 1, (("hue", 0, 1), ("many", 0, 1, 0), ("same", 0, 0), ("all", (1, 2))), False)

    def test_names_of_other_levels(self):
        hues = Web(1, (1,), ()), Web(1, (0,), ())
        for level in (1, 2, 3):
            for name in range(4):
                self.check(*hues, level, (("hue", name, 1), ("many", name, 1, 0)), name <= level)
                # In lines that are not told any name may stand.
                self.check(*hues, level, (("hue", name, 5), ("hue", 0, 1), ("many", 0, 1, 1)), True)
                self.check(*hues, level, (("hue", 0, 1), ("many", 0, 1, 0), ("many", name, 1, 1)), name <= level)
        saying = parting(SIX, TWO, 2)
        self.check(SIX, TWO, 1, saying, False)
        self.check(SIX, TWO, 3, saying, True)
        self.check(SIX, TWO, 2, turned(saying, (2, 0, 1, 3)), True)
        self.check(SIX, TWO, 2, turned(saying, (3, 0, 1, 2)), False)
        self.check(SIX, TWO, 3, turned(saying, (3, 0, 1, 2)), True)

    def test_true_of_both_or_of_none(self):
        for saying in ((("all", ()),), (("some", ()),), (("hue", 0, 0), ("many", 0, 6, 0))):
            self.check(SIX, TWO, 3, saying, False)

    def test_by_words(self):
        chance = random.Random(51)
        webs = small_webs(30)
        for saying in chance_sayings(chance, 300, 2):
            closed = (*saying, ("many", 0, 1, len(saying) - 1), ("many", 1, 2, len(saying)))
            one, other = chance.choice(webs), chance.choice(webs)
            due = holds_by_words(one, closed, {}) and not holds_by_words(other, closed, {})
            self.check(one, other, chance.randrange(1, 4), closed, due)

    def test_wrong_things(self):
        for thing in wrong_things():
            self.check(SIX, TWO, 2, thing, False)
            self.check(bare(1), bare(2), 1, thing, False)
        saying = parting(SIX, TWO, 2)
        self.check(SIX, TWO, 2, list(saying), False)
        self.check(SIX, TWO, 2, saying[:-1], False)
        self.check(SIX, TWO, 2, (list(saying[0]), *saying[1:]), False)

    def test_errors(self):
        saying = parting(SIX, TWO, 2)
        for level in [*NO_LEVELS, *wrong_things()]:
            self.assertEqual(told_error(is_parting, SIX, TWO, level, saying), (NoLevel, {}))
            self.assertEqual(told_error(is_parting, bare(40), TWO, level, None), (NoLevel, {}))
        self.check(bare(6), bare(21), 3, None, False)
        for thing in (None, saying):
            self.assertEqual(told_error(is_parting, bare(7), bare(21), 3, thing), (TooMany, {"most": 10000}))


class Marks(unittest.TestCase):
    def check(self, webs, level):
        before = copy.deepcopy(webs)
        _, told = colouring(webs, level)
        lengths = {number: len(row) for table in told for row, number in table.items()}
        for number, length in lengths.items():
            saying = marks(webs, level, number)
            self.assertIs(is_saying(saying), True)
            self.assertTrue(all(name < length for name in free(saying)), saying)
            self.assertTrue(all(name <= level for name in names(saying)), saying)
            for web, table in zip(webs, told):
                for row in table:
                    if len(row) == length:
                        self.assertIs(holds(web, saying, dict(enumerate(row))), table[row] == number)
        self.assertEqual(webs, before)
        self.assertEqual(told_error(marks, webs, level, len(lengths)), (NoNumber, {}))

    def test_one_web(self):
        for web in [*small_webs(12, 3), PATH, ring(4), path(4), Web(2, (0, 0), ((0, 0, 0), (1, 0, 1)))]:
            for level in (1, 2):
                self.check([web], level)
        for web in [*small_webs(4, 3), PATH, bare(1)]:
            self.check([web], 3)

    def test_webs_together(self):
        webs = [*small_webs(6, 3), PATH, ring(3)]
        for at in range(0, len(webs) - 2, 2):
            self.check(webs[at:at + 2], 2)
            self.check(tuple(webs[at:at + 3]), 1)
        self.check([path(3), bare(2)], 3)

    def test_more_rounds(self):
        self.check([path(9)], 1)
        self.check([path(7), ring(7)], 1)
        self.check([SIX, TWO], 2)
        self.check([both_ways(7, [(0, 1), (1, 2), (2, 3), (3, 4), (3, 5), (5, 6)])], 2)

    def test_colours_of_which_there_is_one(self):
        self.assertEqual(marks([bare(1)], 1, 0), (("all", ()),))
        self.assertIs(holds(PATH, marks([PATH], 3, 0), {}), True)

    def test_equal_calls(self):
        for number in range(3):
            self.assertEqual(marks([PATH], 1, number), marks((PATH,), 1, number))

    def test_errors(self):
        for thing in [*wrong_things(), [], (), [PATH] * 4, [PATH, None], PATH, {0: PATH}]:
            self.assertEqual(told_error(marks, thing, None, None), (NoWebs, {}))
        for thing in [*NO_LEVELS, *wrong_things()]:
            self.assertEqual(told_error(marks, [bare(40)] * 3, thing, None), (NoLevel, {}))
        self.assertEqual(told_error(marks, [bare(7), bare(21)], 3, None), (TooMany, {"most": 10000}))
        for thing in [*wrong_things(), 3, -1, True, False, None, "0", (0,), [1], "1"]:
            self.assertEqual(told_error(marks, [PATH], 1, thing), (NoNumber, {}), thing)
        self.assertIsNone(told_error(marks, [PATH], 1, 2))

    def test_the_most_rows(self):
        self.assertIs(is_saying(marks([bare(6), bare(21)], 3, 0)), True)


if __name__ == "__main__":
    unittest.main()
