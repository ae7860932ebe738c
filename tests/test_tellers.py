"""Tellers that are asked which of some webs is the hidden one. (0.2 to 0.5, 7.2)"""

import copy
import random
import unittest

from levelkin.bases import Base
from levelkin.colours import alike, portrait
from levelkin.errors import BadTeller, NoLevel, NoWebs, TooMany
from levelkin.machines import found
from levelkin.sayings import free, holds, is_saying, names
from levelkin.twists import twisted
from levelkin.webs import Web, renamed

from tests.second_sayings import holds_by_words
from tests.test_colours import NO_LEVELS
from tests.test_portraits import ROOK, SIX, TORUS, TWO
from tests.things import PATH, bare, path, ring, small_webs, told_error, wrong_things

TRIANGLE = Base(3, ((0, 1), (0, 2), (1, 2)))
TRIANGLES = [twisted(TRIANGLE, ()), twisted(TRIANGLE, (0,))]


class Found(unittest.TestCase):
    def check_asked(self, webs, level, asked, told):
        """What was asked, and that the pairs are in order what the teller was asked and told."""
        self.assertIs(type(asked), tuple)
        self.assertEqual(list(asked), told)
        for saying, flag in asked:
            self.assertIs(is_saying(saying), True)
            self.assertEqual(free(saying), ())
            self.assertTrue(all(name <= level for name in names(saying)))
            self.assertIs(type(flag), bool)

    def ask(self, webs, level, teller):
        told = []

        def keeping(saying):
            flag = teller(saying)
            told.append((saying, flag))
            return flag

        before = copy.deepcopy(webs)
        lot, asked = found(webs, level, keeping)
        self.assertEqual(webs, before)
        self.check_asked(webs, level, asked, told)
        unlike = []
        for web in webs:
            own = portrait(web, level) if len(webs) > 1 else ()
            if own not in unlike:
                unlike.append(own)
        self.assertLess(len(asked), len(unlike))
        true = [at for at, web in enumerate(webs) if all(holds(web, saying, {}) is flag for saying, flag in asked)]
        self.assertEqual(lot, tuple(true))
        self.assertGreater(len(lot), 0)
        for at, web in enumerate(webs):
            if len(webs) > 1:
                self.assertIs(alike(webs[lot[0]], web, level), at in lot)
        self.assertEqual(found(webs, level, teller), (lot, asked))
        return lot, asked

    def check(self, webs, level):
        """Each web hidden in turn: the lot is just the webs alike to it."""
        for hidden in webs:
            lot, asked = self.ask(webs, level, lambda saying: holds(hidden, saying, {}))
            self.assertEqual(lot, tuple(at for at, web in enumerate(webs) if alike(web, hidden, level)))
            self.assertTrue(all(holds(hidden, saying, {}) is flag for saying, flag in asked))

    def test_small_webs_at_each_level(self):
        for webs in (small_webs(6, 3), tuple(small_webs(9, 4)), [PATH, ring(3), bare(3), path(3), PATH]):
            for level in (1, 2, 3):
                self.check(webs, level)

    def test_truth_by_words(self):
        webs = [PATH, ring(3), bare(3), bare(2), renamed(PATH, (1, 0, 2))]
        for level in (1, 2):
            for hidden in webs:
                lot, _ = self.ask(webs, level, lambda saying: holds_by_words(hidden, saying, {}))
                self.assertEqual(lot, tuple(at for at, web in enumerate(webs) if alike(web, hidden, level)))

    def test_webs_that_are_alike_and_not_the_same(self):
        self.check([SIX, TWO, ring(5)], 1)
        self.check([SIX, TWO, ring(5), SIX], 2)
        self.check(TRIANGLES, 1)
        self.check([*TRIANGLES, SIX], 2)
        self.check([ROOK, TORUS], 2)
        self.assertEqual(found([SIX, TWO], 1, None), ((0, 1), ()))

    def test_one_web_and_twelve(self):
        for level in (1, 2, 3):
            self.assertEqual(found([PATH], level, None), ((0,), ()))
            self.assertEqual(found((PATH,), level, None), ((0,), ()))
        webs = [ring(many) for many in range(3, 9)] + [path(many) for many in range(3, 9)]
        self.check(webs, 1)
        self.check(tuple(webs), 2)
        self.assertEqual(found([PATH] * 12, 2, None), (tuple(range(12)), ()))

    def test_webs_of_unlike_sizes(self):
        self.check([bare(many) for many in (1, 2, 3, 39, 40)], 1)
        self.check([bare(14), bare(13), Web(14, (1,) * 14, ())], 2)

    def test_tellers_that_tell_always_the_same(self):
        webs = [PATH, ring(3), bare(3), ring(4), SIX, TWO, *small_webs(4, 4)]
        for level in (1, 2):
            for flag in (True, False):
                lot, asked = self.ask(webs, level, lambda saying: flag)
                self.assertTrue(all(told is flag for _, told in asked))
                self.assertGreater(len(asked), 0)

    def test_tellers_by_chance(self):
        chance = random.Random(94)
        for _ in range(40):
            webs = chance.sample(small_webs(30, 4), chance.randrange(2, 10))
            turn = chance.randrange(2)
            self.ask(webs, chance.randrange(1, 3), lambda saying: len(str(saying)) % 2 == turn)

    def test_what_is_no_flag(self):
        webs = [PATH, ring(3), bare(3), ring(4), SIX]
        for thing in [*[thing for thing in wrong_things() if type(thing) is not bool], 0, 1, "True", (True,), [False]]:
            self.assertEqual(told_error(found, webs, 1, lambda saying: thing), (BadTeller, {"asked": ()}))
            told = []

            def later(saying):
                told.append((saying, holds(SIX, saying, {})))
                return told[-1][1] if len(told) < 3 else thing

            due = told_error(found, webs, 1, later)
            self.assertEqual(len(told), 3)
            self.assertEqual(due, (BadTeller, {"asked": tuple(told[:2])}))

    def test_errors_of_the_teller_go_on(self):
        class Mine(Exception):
            pass

        def fail(saying):
            raise Mine()

        with self.assertRaises(Mine):
            found([PATH, ring(3)], 1, fail)
        for wrong in (ValueError, KeyError, IndexError, RecursionError, BadTeller):
            def wrong_one(saying):
                raise wrong("own")

            with self.assertRaises(wrong):
                found([PATH, ring(3)], 1, wrong_one)


class Errors(unittest.TestCase):
    def test_wrong_webs(self):
        for thing in [*wrong_things(), [], (), [PATH] * 13, (PATH,) * 13, [PATH, None], (None, PATH), [[PATH]], PATH,
                      {0: PATH}, [PATH, (3, (0, 0, 0), ())], [*[PATH] * 11, "web"]]:
            for level in (1, 0, None):
                self.assertEqual(told_error(found, thing, level, None), (NoWebs, {}))

    def test_wrong_levels(self):
        for level in [*NO_LEVELS, *wrong_things()]:
            self.assertEqual(told_error(found, [PATH, PATH], level, None), (NoLevel, {}))
            self.assertEqual(told_error(found, [PATH], level, None), (NoLevel, {}))
            self.assertEqual(told_error(found, [bare(40), bare(40)], level, None), (NoLevel, {}))

    def test_too_many_rows_of_two_together(self):
        due = (TooMany, {"most": 10000})
        # 22 places have 11155 rows of level 3, 17 have 5220, 16 have 4369, 21 have 9724, 6 have 259 and 7 have 400.
        for sizes in ((17, 17), (1, 17, 2, 17), (21, 7), (7, 1, 21), (22, 1), (1, 40), (16, 16, 22)):
            self.assertEqual(told_error(found, [bare(many) for many in sizes], 3, lambda saying: True), due)
        web = bare(17)
        self.assertEqual(told_error(found, [web, web], 3, lambda saying: True), due)
        for sizes in ((21, 6), (6, 6, 6, 21), (16, 17)):
            self.assertIsNone(told_error(found, [bare(many) for many in sizes], 3, lambda saying: False))
        self.assertEqual(len(found([bare(40)] * 2, 2, None)[0]), 2)

    def test_one_web_is_no_two(self):
        self.assertEqual(found([bare(40)], 3, None), ((0,), ()))


if __name__ == "__main__":
    unittest.main()
