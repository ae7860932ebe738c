"""Colouring, round by round. (0.2 to 0.5, 2.1)"""

import copy
import itertools
import unittest

from levelkin.colours import alike, colouring, portrait
from levelkin.errors import NoLevel, NoWebs, TooMany
from levelkin.webs import Web, beside, renamed

from tests.second import colouring_by_words, how_many, rows_by_words, whole_colours
from tests.things import PATH, bare, both_ways, path, ring, small_webs, told_error, wrong_things

NO_LEVELS = (0, 4, -1, True, False, None, "1", (1,), [1], {1: 1}, b"1", 10 ** 30 - 1, -(10 ** 30 - 1))


class Colouring(unittest.TestCase):
    def test_the_example(self):
        self.assertEqual(colouring([PATH], 1), (1, [{(): 0, (0,): 1, (1,): 2, (2,): 1}]))

    def test_one_place(self):
        one = bare(1)
        self.assertEqual(colouring([one], 1), (0, [{(): 0, (0,): 1}]))
        self.assertEqual(colouring([one], 2), (0, [{(): 0, (0,): 1, (0, 0): 2}]))
        self.assertEqual(colouring([one], 3), (0, [{(): 0, (0,): 1, (0, 0): 2, (0, 0, 0): 3}]))

    def test_hues_kinds_and_loops_are_told_apart(self):
        self.assertEqual(colouring([Web(2, (5, 3), ())], 1), (0, [{(): 0, (0,): 2, (1,): 1}]))
        self.assertEqual(colouring([Web(2, (0, 0), ((0, 1, 1),))], 1), (0, [{(): 0, (0,): 1, (1,): 2}]))
        self.assertEqual(
            colouring([Web(2, (0, 0), ((0, 0, 0), (1, 1, 1)))], 1), (0, [{(): 0, (0,): 1, (1,): 2}]))
        self.assertEqual(colouring([Web(2, (0, 0), ((0, 0, 1),))], 1)[0], 1)
        self.assertEqual(how_many(colouring([Web(4, (0,) * 4, ((0, 0, 1), (1, 2, 3)))], 1)[1]), 5)

    def test_the_keys_are_just_the_rows_of_the_level(self):
        for level in (1, 2, 3):
            told = colouring([PATH, bare(2)], level)[1]
            for web, table in zip((PATH, bare(2)), told):
                self.assertEqual(sorted(table), sorted(rows_by_words(web, level)))
            numbers = sorted({number for table in told for number in table.values()})
            self.assertEqual(numbers, list(range(len(numbers))))

    def test_kinds_of_values(self):
        for webs in ([PATH], (PATH, PATH)):
            told = colouring(webs, 2)
            self.assertIs(type(told), tuple)
            self.assertIs(type(told[0]), int)
            self.assertIs(type(told[1]), list)
            self.assertEqual(len(told[1]), len(webs))
            for table in told[1]:
                self.assertIs(type(table), dict)
                self.assertTrue(all(type(row) is tuple and type(number) is int for row, number in table.items()))

    def test_by_words_alone(self):
        for web in [*small_webs(30), path(5), ring(5)]:
            for level in (1, 2):
                self.assertEqual(colouring([web], level), colouring_by_words([web], level))
        for web in [*small_webs(12, 3), path(3)]:
            self.assertEqual(colouring([web], 3), colouring_by_words([web], 3))

    def test_by_words_together(self):
        webs = [*small_webs(10, 3), path(3), ring(3), bare(2)]
        for one, other in itertools.combinations(webs, 2):
            self.assertEqual(colouring([one, other], 1), colouring_by_words([one, other], 1))
        for at in range(len(webs) - 2):
            some = webs[at:at + 3]
            for level in (1, 2):
                self.assertEqual(colouring(some, level), colouring_by_words(some, level))
        self.assertEqual(colouring(webs[:2], 3), colouring_by_words(webs[:2], 3))

    def test_long_webs_by_words(self):
        self.assertEqual(colouring([path(9)], 1), colouring_by_words([path(9)], 1))
        self.assertEqual(colouring([path(9), ring(9)], 1), colouring_by_words([path(9), ring(9)], 1))
        self.assertEqual(colouring([path(9)], 1)[0], 4)
        self.assertEqual(colouring([path(7), path(6)], 2), colouring_by_words([path(7), path(6)], 2))

    def test_numbers_are_alike_just_where_whole_colours_are(self):
        for webs in ([path(3), ring(3)], [path(4)], [Web(3, (0, 1, 0), ((0, 0, 1), (2, 1, 2), (3, 2, 2)))]):
            for level in (1, 2):
                rounds, told = colouring(webs, level)
                whole = whole_colours(webs, level, rounds)
                pairs = [(whole[at][row], told[at][row]) for at in range(len(webs)) for row in told[at]]
                for (colour, number), (other, another) in itertools.combinations(pairs, 2):
                    self.assertEqual(colour == other, number == another)

    def test_the_order_of_the_webs_is_that_of_the_dicts(self):
        rounds, (first, second, third) = colouring([path(4), ring(3), bare(1)], 2)
        self.assertEqual(colouring([bare(1), path(4), ring(3)], 2), (rounds, [third, first, second]))

    def test_a_renamed_web_has_renamed_colours(self):
        for web in small_webs(10):
            order = tuple(range(1, web.many)) + (0,)
            told, other = colouring([web, renamed(web, order)], 2)[1]
            for row, number in told.items():
                self.assertEqual(other[tuple(order[place] for place in row)], number)

    def test_levels_tell_more_and_more(self):
        six, two = ring(6), beside(ring(3), ring(3))
        self.assertEqual(how_many(colouring([six, two], 1)[1]), 2)
        told = colouring([six, two], 2)[1]
        self.assertNotEqual(told[0][()], told[1][()])


class Arguments(unittest.TestCase):
    def test_lists_and_tuples_of_one_to_three(self):
        for many in (1, 2, 3):
            webs = [PATH, ring(4), PATH][:many]
            self.assertEqual(colouring(webs, 1), colouring(tuple(webs), 1))
            self.assertEqual(len(colouring(webs, 1)[1]), many)

    def test_no_webs(self):
        for webs in ([], (), [PATH] * 4, (PATH,) * 4, PATH, None, {0: PATH}, {PATH.many: PATH}, [PATH, None],
                     (PATH, PATH, [PATH]), [[PATH]], iter([PATH]), "web", 1):
            self.assertEqual(told_error(colouring, webs, 1), (NoWebs, {}))

    def test_no_level(self):
        for level in NO_LEVELS:
            self.assertEqual(told_error(colouring, [PATH], level), (NoLevel, {}), level)

    def test_wrong_things(self):
        for at, thing in enumerate(wrong_things()):
            self.assertEqual(told_error(colouring, thing, 1), (NoWebs, {}), at)
            self.assertEqual(told_error(colouring, thing, thing), (NoWebs, {}), at)
            self.assertEqual(told_error(colouring, [PATH], thing), (NoLevel, {}), at)
            if not isinstance(thing, Web):
                self.assertEqual(told_error(colouring, [PATH, thing], 1), (NoWebs, {}), at)
                self.assertEqual(told_error(colouring, (thing, PATH, thing), 1), (NoWebs, {}), at)
            self.assertEqual(told_error(colouring, [thing] * 4, 1), (NoWebs, {}), at)

    def test_errors_in_order(self):
        self.assertEqual(told_error(colouring, [], 0), (NoWebs, {}))
        self.assertEqual(told_error(colouring, [bare(40)] * 4, 4), (NoWebs, {}))
        self.assertEqual(told_error(colouring, [bare(40)], 4), (NoLevel, {}))
        self.assertEqual(told_error(colouring, [bare(40)], 3), (TooMany, {"most": 10000}))

    def test_too_many_rows(self):
        self.assertEqual(len(colouring([bare(21)], 3)[1][0]), 9724)
        told = colouring([bare(2), bare(6), bare(21)], 3)[1]
        self.assertEqual(sum(map(len, told)), 9998)
        for many in ((22,), (40,), (11, 13, 18), (7, 21), (3, 6, 21), (21, 21)):
            webs = [bare(n) for n in many]
            self.assertEqual(told_error(colouring, webs, 3), (TooMany, {"most": 10000}), many)
            colouring(webs, 1)

    def test_many_places_at_lower_levels(self):
        self.assertEqual(colouring([ring(40)] * 3, 1)[0], 0)
        self.assertEqual(sum(map(len, colouring([bare(40)] * 3, 2)[1])), 3 * 1641)


class Keeping(unittest.TestCase):
    def test_arguments_are_not_changed(self):
        webs = [PATH, ring(3)]
        before = copy.copy(webs)
        colouring(webs, 2)
        told_error(colouring, webs, 0)
        self.assertEqual(webs, before)
        self.assertIs(webs[0], PATH)

    def test_what_is_returned_is_new(self):
        first = colouring([PATH], 1)
        first[1][0][()] = 7
        first[1][0].pop((0,))
        first[1].append(None)
        self.assertEqual(colouring([PATH], 1), (1, [{(): 0, (0,): 1, (1,): 2, (2,): 1}]))
        self.assertEqual(alike(PATH, PATH, 1), True)
        self.assertEqual(portrait(PATH, 1), portrait(renamed(PATH, (2, 1, 0)), 1))

    def test_a_list_changed_behind_the_call_changes_nothing(self):
        webs = [PATH]
        told = colouring(webs, 1)
        webs.append(ring(4))
        self.assertEqual(told, (1, [{(): 0, (0,): 1, (1,): 2, (2,): 1}]))

    def test_equal_calls_give_equal_answers(self):
        for web in small_webs(10):
            twin = Web(web.many, tuple(list(web.hues)), tuple(list(web.ties)))
            for level in (1, 2, 3):
                self.assertEqual(colouring([web, PATH], level), colouring((twin, PATH), level))

    def test_one_web_more_than_once(self):
        told = colouring([PATH, PATH], 2)[1]
        self.assertEqual(told[0], told[1])
        self.assertIsNot(told[0], told[1])

    def test_both_ways_is_what_it_is_taken_for(self):
        self.assertEqual(both_ways(3, [(0, 1), (1, 2)]), PATH)


if __name__ == "__main__":
    unittest.main()
