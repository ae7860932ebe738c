"""Closed colourings, and the first fact. (2.2)"""

import copy
import itertools
import unittest

from levelkin.colours import colouring, is_closed
from levelkin.errors import NoLevel, NoWebs, TooMany
from levelkin.webs import Web, beside

from tests.second import is_closed_by_words, partitions, rows_by_words
from tests.things import PATH, bare, path, ring, small_webs, told_error, wrong_things
from tests.test_colours import NO_LEVELS


def told_by(webs, level, integers):
    """The colouring that tells these integers to the rows of the webs, one behind another."""
    integers = iter(integers)
    return [{row: next(integers) for row in rows_by_words(web, level)} for web in webs]


def finest(webs, level, first=0):
    """To each row an integer of its own."""
    return told_by(webs, level, itertools.count(first))


def is_key(thing):
    try:
        hash(thing)
    except TypeError:
        return False
    return True


class Closed(unittest.TestCase):
    def check(self, webs, level, thing, due):
        before = copy.deepcopy(thing)
        self.assertIs(is_closed(webs, level, thing), due)
        self.assertEqual(thing, before)

    def test_what_colouring_tells_is_closed(self):
        for web in [*small_webs(25), path(5), ring(6)]:
            for level in (1, 2, 3):
                self.check([web], level, colouring([web], level)[1], True)
                self.check((web, PATH), level, colouring((web, PATH), level)[1], True)
        webs = [ring(6), beside(ring(3), ring(3)), bare(2)]
        for level in (1, 2):
            self.check(webs, level, colouring(webs, level)[1], True)

    def test_large_ones(self):
        webs = [bare(2), bare(6), path(21)]
        told = colouring(webs, 3)[1]
        self.check(webs, 3, told, True)
        told[2][(0, 1, 2)] = told[2][(0, 1, 3)]
        self.check(webs, 3, told, False)

    def test_other_integers_do_as_well(self):
        told = colouring([PATH, ring(3)], 2)[1]
        for change in (lambda n: -n, lambda n: 10 ** 29 * (n % 9) + n, lambda n: 7 - 3 * n, lambda n: n - 10 ** 29):
            self.check([PATH, ring(3)], 2, [{row: change(n) for row, n in table.items()} for table in told], True)

    def test_finer_ones_are_closed(self):
        for webs in ([PATH], [PATH, ring(4)], [PATH, PATH]):
            for level in (1, 2, 3):
                self.check(webs, level, finest(webs, level, -5), True)
        apart = colouring([PATH], 1)[1]
        apart[0][(2,)] = -10
        self.check([PATH], 1, apart, True)
        apart = colouring([PATH], 1)[1]
        more = [{row: number + 100 for row, number in apart[0].items()}]
        self.check([PATH, PATH], 1, apart + more, True)

    def test_two_numbers_told_as_one_are_not_closed(self):
        for webs, level in (([PATH], 1), ([PATH], 2), ([path(4)], 2), ([PATH, ring(3)], 1)):
            told = colouring(webs, level)[1]
            numbers = sorted({number for table in told for number in table.values()})
            for one, other in itertools.combinations(numbers, 2):
                merged = [{row: one if n == other else n for row, n in table.items()} for table in told]
                self.check(webs, level, merged, False)

    def test_one_look_is_not_enough(self):
        self.check([PATH], 1, [{(): 0, (0,): 1, (1,): 1, (2,): 1}], False)

    def test_alike_sights_are_not_enough(self):
        webs = [Web(2, (0, 0), ((0, 0, 0), (0, 0, 1), (0, 1, 0), (0, 1, 1))), bare(2)]
        self.check(webs[:1], 1, [{(): 0, (0,): 0, (1,): 0}], False)
        self.check(webs, 1, [{(): 0, (0,): 1, (1,): 1}, {(): 0, (0,): 1, (1,): 1}], False)
        self.check(webs, 1, [{(): 0, (0,): 1, (1,): 1}, {(): 2, (0,): 3, (1,): 3}], True)
        hues = [Web(1, (0,), ()), Web(1, (1,), ())]
        self.check(hues, 1, [{(): 0, (0,): 1}, {(): 2, (0,): 1}], False)

    def test_each_colouring_of_small_webs(self):
        cases = [([PATH], 1), ([bare(1), bare(2)], 1), ([Web(2, (0, 0), ((0, 0, 1),)), bare(1)], 1),
                 ([Web(2, (0, 0), ((1, 0, 1), (1, 1, 0)))], 2), ([bare(2)], 2), ([bare(1)], 3), ([ring(3)], 1)]
        for webs, level in cases:
            right = colouring(webs, level)[1]
            rows = [(at, row) for at, web in enumerate(webs) for row in rows_by_words(web, level)]
            closed = 0
            for integers in partitions(len(rows)):
                told = told_by(webs, level, integers)
                due = is_closed_by_words(webs, level, told)
                self.assertIs(is_closed(webs, level, told), due)
                if due:
                    closed += 1
                    for (at, row), (by, other) in itertools.combinations(rows, 2):
                        if right[at][row] != right[by][other]:
                            self.assertNotEqual(told[at][row], told[by][other])
            self.assertGreater(closed, 0)


class Judged(unittest.TestCase):
    def test_how_many_dicts(self):
        one, two = colouring([PATH], 1)[1], colouring([PATH, PATH], 1)[1]
        self.assertIs(is_closed([PATH], 1, two), False)
        self.assertIs(is_closed([PATH, PATH], 1, one), False)
        self.assertIs(is_closed([PATH, PATH], 1, one + one), True)
        self.assertIs(is_closed([PATH], 1, []), False)

    def test_a_tuple_of_dicts(self):
        told = colouring([PATH], 1)[1]
        self.assertIs(is_closed([PATH], 1, tuple(told)), False)
        self.assertIs(is_closed([PATH], 1, told[0]), False)
        self.assertIs(is_closed([PATH], 1, colouring([PATH], 1)), False)
        self.assertIs(is_closed((PATH,), 1, told), True)

    def test_rows_too_few_and_too_many(self):
        for level in (1, 2, 3):
            for row in rows_by_words(PATH, level):
                told = finest([PATH], level)
                del told[0][row]
                self.assertIs(is_closed([PATH], level, told), False)
                told[0]["more"] = 99
                self.assertIs(is_closed([PATH], level, told), False)
            for row in ((3,), (0,) * (level + 1), 0, "", None, (-1,), ("0",), ((0,),), 10 ** 29):
                told = finest([PATH], level)
                told[0][row] = 99
                self.assertIs(is_closed([PATH], level, told), False)
        self.assertIs(is_closed([PATH], 1, finest([PATH], 2)), False)
        self.assertIs(is_closed([PATH], 2, finest([PATH], 1)), False)
        self.assertIs(is_closed([PATH], 1, finest([path(4)], 1)), False)
        self.assertIs(is_closed([PATH, bare(2)], 1, finest([bare(2), PATH], 1)), False)

    def test_wrong_numbers(self):
        for at, thing in enumerate(wrong_things()):
            told = finest([PATH], 1)
            told[0][(1,)] = thing
            right = isinstance(thing, int) and not isinstance(thing, bool)
            self.assertIs(is_closed([PATH], 1, told), right, at)

    def test_wrong_keys(self):
        for at, thing in enumerate(wrong_things()):
            # No flags are passed as keys, or within them, and a list and the like cannot be one.
            if isinstance(thing, bool) or thing in ((True,), (False,)) or not is_key(thing):
                continue
            told = finest([PATH], 1)
            del told[0][(1,)]
            told[0][thing] = 1
            self.assertIs(is_closed([PATH], 1, told), False, at)
            told[0][(1,)] = 2
            self.assertIs(is_closed([PATH], 1, told), False, at)

    def test_wrong_things(self):
        for at, thing in enumerate(wrong_things()):
            self.assertIs(is_closed([PATH], 1, thing), False, at)
            self.assertIs(is_closed([PATH], 1, [thing]), False, at)
            self.assertIs(is_closed([PATH, PATH], 2, [thing, thing]), False, at)
            self.assertEqual(told_error(is_closed, thing, 1, thing), (NoWebs, {}), at)
            self.assertEqual(told_error(is_closed, [PATH], thing, thing), (NoLevel, {}), at)

    def test_errors_ahead_of_judging(self):
        for level in NO_LEVELS:
            self.assertEqual(told_error(is_closed, [PATH], level, None), (NoLevel, {}), level)
            self.assertEqual(told_error(is_closed, [], level, None), (NoWebs, {}), level)
        self.assertEqual(told_error(is_closed, [bare(22)], 3, None), (TooMany, {"most": 10000}))
        self.assertEqual(told_error(is_closed, [bare(22)], 4, None), (NoLevel, {}))
        self.assertEqual(told_error(is_closed, [bare(11), bare(13), bare(18)], 3, []), (TooMany, {"most": 10000}))
        self.assertIs(is_closed([bare(21)], 3, None), False)

    def test_what_is_done_behind_the_call(self):
        webs, told = [PATH], colouring([PATH], 1)[1]
        self.assertIs(is_closed(webs, 1, told), True)
        told[0][(1,)] = 1
        self.assertIs(is_closed(webs, 1, told), False)
        self.assertIs(is_closed(webs, 1, colouring(webs, 1)[1]), True)


if __name__ == "__main__":
    unittest.main()
