"""Webs, orders, webs beside one another, looks. (0.2 to 0.5, 1.1 to 1.3)"""

import copy
import itertools
import random
import unittest

from levelkin.errors import BadWeb, Full, NoOrder, NoRow
from levelkin.webs import Web, beside, look, renamed

from tests.second import look_by_words
from tests.things import PATH, bare, chance_web, ring, small_webs, told_error, wrong_things

ALL_TIES = [(kind, a, b) for kind in range(4) for a in range(40) for b in range(40)]


def bad(part):
    return BadWeb, {"part": part}


def web_with_ties(many, how_many, skip=0):
    """A web of so many places with so many ties, taken in order behind some that are left out."""
    fit = [tie for tie in ALL_TIES if tie[1] < many and tie[2] < many]
    return Web(many, (0,) * many, tuple(fit[skip:skip + how_many]))


class Making(unittest.TestCase):
    def test_attributes(self):
        web = Web(2, (3, 9), ((0, 0, 1), (3, 1, 1)))
        self.assertEqual((web.many, web.hues, web.ties), (2, (3, 9), ((0, 0, 1), (3, 1, 1))))
        self.assertEqual(set(vars(web)), {"many", "hues", "ties"})

    def test_how_many_places(self):
        for many in (1, 40):
            self.assertEqual(bare(many).many, many)
        for many in (0, 41, -1, 10 ** 30 - 1, -(10 ** 30 - 1), True, False):
            self.assertEqual(told_error(Web, many, (0,) * min(abs(many), 50), ()), bad("many"), many)

    def test_hues(self):
        self.assertEqual(Web(2, (0, 9), ()).hues, (0, 9))
        for hues in ((), (0,), (0, 0, 0), (0, 10), (10, 0), (0, -1), (0, 10 ** 30 - 1), (0, True), (False, 0),
                     [0, 0], (0, "0"), (0, None), (0, (0,)), "00", b"00", {0: 0, 1: 1}, range(2)):
            self.assertEqual(told_error(Web, 2, hues, ()), bad("hues"), hues)

    def test_how_many_ties(self):
        self.assertEqual(len(web_with_ties(40, 1600).ties), 1600)
        self.assertEqual(told_error(web_with_ties, 40, 1601), bad("ties"))

    def test_ties_that_are_no_tuple(self):
        for ties in ([], [(0, 0, 0)], {}, "", None, 0, {(0, 0, 0): True}):
            self.assertEqual(told_error(Web, 1, (0,), ties), bad("ties"), ties)

    def test_kinds_and_places_of_ties(self):
        self.assertEqual(Web(2, (0, 0), ((3, 1, 1),)).ties, ((3, 1, 1),))
        for tie in ((4, 0, 0), (0, 2, 0), (0, 0, 2), (-1, 0, 0), (0, -1, 0), (0, 0, -1), (True, 0, 0), (0, True, 0),
                    (0, 0, False), (0, 0), (0, 0, 0, 0), (), [0, 0, 0], "000", (0, 0, "0"), (0, None, 0),
                    ((0,), 0, 0), (10 ** 30 - 1, 0, 0), (0, 0, 10 ** 30 - 1), None, 0):
            self.assertEqual(told_error(Web, 2, (0, 0), (tie,)), bad(0), tie)

    def test_a_tie_from_a_place_to_itself(self):
        self.assertEqual(Web(1, (0,), ((0, 0, 0), (1, 0, 0))).ties, ((0, 0, 0), (1, 0, 0)))

    def test_ties_that_do_not_ascend(self):
        self.assertEqual(told_error(Web, 2, (0, 0), ((0, 0, 1), (0, 0, 1))), bad(1))
        self.assertEqual(told_error(Web, 2, (0, 0), ((0, 1, 0), (0, 0, 1))), bad(1))
        self.assertEqual(told_error(Web, 2, (0, 0), ((1, 0, 0), (0, 1, 1))), bad(1))
        self.assertEqual(told_error(Web, 2, (0, 0), ((0, 0, 0), (0, 0, 1), (0, 1, 0), (0, 1, 0))), bad(3))

    def test_the_first_wrong_tie_is_told(self):
        self.assertEqual(told_error(Web, 2, (0, 0), ((0, 0, 0), (0, 0, 2), None)), bad(1))
        self.assertEqual(told_error(Web, 2, (0, 0), ((0, 0, 0), (0, 0, 1), None, (9, 9, 9))), bad(2))
        self.assertEqual(told_error(Web, 2, (0, 0), ((0, 0, 1), (0, 0, 0), None)), bad(1))
        many = web_with_ties(40, 1600).ties
        self.assertEqual(told_error(Web, 40, (0,) * 40, many[:-1] + (many[0],)), bad(1599))

    def test_the_first_wrong_part_is_told(self):
        self.assertEqual(told_error(Web, 0, None, None), bad("many"))
        self.assertEqual(told_error(Web, 41, (0,), ((9, 9, 9),)), bad("many"))
        self.assertEqual(told_error(Web, 1, (10,), None), bad("hues"))
        self.assertEqual(told_error(Web, 1, (), ((9, 9, 9),)), bad("hues"))
        self.assertEqual(told_error(Web, 1, (0,), (None,) * 1601), bad("ties"))

    def test_wrong_things(self):
        for at, thing in enumerate(wrong_things()):
            self.assertEqual(told_error(Web, thing, (0,), ()), bad("many"), at)
            self.assertEqual(told_error(Web, thing, thing, thing), bad("many"), at)
            self.assertEqual(told_error(Web, 2, thing, ()), bad("hues"), at)
            self.assertEqual(told_error(Web, 2, thing, thing), bad("hues"), at)
            self.assertEqual(told_error(Web, 2, (0, thing), ()), bad("hues"), at)
            self.assertEqual(told_error(Web, 2, (0, 0), (thing,)), bad(0), at)
            self.assertEqual(told_error(Web, 2, (0, 0), ((0, 0, 0), thing)), bad(1), at)
            for slot in range(3):
                tie = tuple(thing if i == slot else 1 for i in range(3))
                self.assertEqual(told_error(Web, 2, (0, 0), ((0, 0, 0), tie)), bad(1), at)
            due = bad("ties")
            if isinstance(thing, tuple) and len(thing) <= 1600:
                due = bad(0)
            self.assertEqual(told_error(Web, 2, (0, 0), thing), due, at)


class Equality(unittest.TestCase):
    def test_equal_if_all_attributes_are(self):
        web = Web(2, (0, 1), ((0, 0, 1),))
        self.assertTrue(web == Web(2, (0, 1), ((0, 0, 1),)))
        self.assertFalse(web != Web(2, (0, 1), ((0, 0, 1),)))
        for other in (Web(2, (1, 1), ((0, 0, 1),)), Web(2, (0, 1), ()), Web(2, (0, 1), ((0, 1, 0),)),
                      Web(3, (0, 1, 0), ((0, 0, 1),))):
            self.assertFalse(web == other)
            self.assertTrue(web != other)

    def test_equal_to_nothing_of_another_class(self):
        class Twin:
            def __init__(self, web):
                self.many, self.hues, self.ties = web.many, web.hues, web.ties

            def __eq__(self, other):
                return True

        web = Web(1, (0,), ())
        self.assertFalse(web == Twin(web))
        self.assertFalse(web == (1, (0,), ()))
        for thing in wrong_things():
            if not isinstance(thing, Web):
                self.assertFalse(web == thing)
                self.assertTrue(web != thing)


class Orders(unittest.TestCase):
    def test_the_example(self):
        self.assertEqual(renamed(PATH, (1, 0, 2)).ties, ((0, 0, 1), (0, 0, 2), (0, 1, 0), (0, 2, 0)))

    def test_each_place_is_called_by_the_order(self):
        web = Web(3, (4, 5, 6), ((0, 0, 1), (1, 1, 2), (2, 0, 0)))
        self.assertEqual(renamed(web, (2, 0, 1)), Web(3, (5, 6, 4), ((0, 2, 0), (1, 0, 1), (2, 2, 2))))

    def test_by_words_and_back(self):
        for web in small_webs(40):
            for order in itertools.permutations(range(web.many)):
                other = renamed(web, order)
                self.assertEqual({(k, order[a], order[b]) for k, a, b in web.ties}, set(other.ties))
                self.assertEqual(len(web.ties), len(other.ties))
                for place in range(web.many):
                    self.assertEqual(other.hues[order[place]], web.hues[place])
                back = tuple(order.index(place) for place in range(web.many))
                self.assertEqual(renamed(other, back), web)
            self.assertEqual(renamed(web, tuple(range(web.many))), web)

    def test_forty_places(self):
        order = tuple((7 * place + 3) % 40 for place in range(40))
        web = chance_web(random.Random(4), 40, 10, 4, 1)
        self.assertLessEqual(len(web.ties), 1600)
        back = tuple(order.index(place) for place in range(40))
        self.assertEqual(renamed(renamed(web, order), back), web)

    def test_what_is_no_order(self):
        for order in ((), (0, 1), (0, 1, 2, 3), (0, 1, 2, 2), (0, 1, 1), (0, 1, 3), (1, 2, 3), (0, 1, -1), [0, 1, 2],
                      (False, True, 2), (0, True, 2), ("0", "1", "2"), (0, 1, None), "012", range(3),
                      {0: 0, 1: 1, 2: 2}, (0, 1, 10 ** 30 - 1), ((0,), (1,), (2,)), ([], [], [])):
            self.assertEqual(told_error(renamed, PATH, order), (NoOrder, {}), order)

    def test_wrong_things(self):
        for at, thing in enumerate(wrong_things()):
            self.assertEqual(told_error(renamed, PATH, thing), (NoOrder, {}), at)
            self.assertEqual(told_error(renamed, PATH, (0, 1, thing)), (NoOrder, {}), at)
            self.assertEqual(told_error(renamed, PATH, (thing, thing, thing)), (NoOrder, {}), at)
        self.assertEqual(told_error(renamed, bare(1), (False,)), (NoOrder, {}))


class Beside(unittest.TestCase):
    def test_both_are_there(self):
        one = Web(2, (1, 2), ((0, 0, 1), (2, 1, 1)))
        other = Web(2, (3, 4), ((0, 1, 0), (1, 0, 0)))
        self.assertEqual(
            beside(one, other), Web(4, (1, 2, 3, 4), ((0, 0, 1), (0, 3, 2), (1, 2, 2), (2, 1, 1))))
        self.assertEqual(
            beside(other, one), Web(4, (3, 4, 1, 2), ((0, 1, 0), (0, 2, 3), (1, 0, 0), (2, 3, 3))))

    def test_a_web_beside_itself(self):
        web = Web(1, (5,), ((3, 0, 0),))
        self.assertEqual(beside(web, web), Web(2, (5, 5), ((3, 0, 0), (3, 1, 1))))

    def test_forty_places_and_more(self):
        self.assertEqual(beside(bare(1), bare(39)), bare(40))
        self.assertEqual(beside(bare(20), bare(20)), bare(40))
        self.assertEqual(told_error(beside, bare(1), bare(40)), (Full, {}))
        self.assertEqual(told_error(beside, bare(21), bare(20)), (Full, {}))
        self.assertEqual(told_error(beside, bare(40), bare(40)), (Full, {}))

    def test_1600_ties_and_more(self):
        both = beside(web_with_ties(20, 800), web_with_ties(20, 800, 700))
        self.assertEqual((both.many, len(both.ties)), (40, 1600))
        self.assertEqual(told_error(beside, web_with_ties(20, 801), web_with_ties(20, 800)), (Full, {}))
        self.assertEqual(told_error(beside, web_with_ties(20, 1600), web_with_ties(1, 1)), (Full, {}))
        self.assertEqual(len(beside(web_with_ties(20, 1600), web_with_ties(1, 0)).ties), 1600)


class Looks(unittest.TestCase):
    def test_the_example(self):
        self.assertEqual(
            look(PATH, (0, 1, 0)), ((0, 0, 0), ((0, 2),), ((0, 0, 1), (0, 1, 0), (0, 1, 2), (0, 2, 1))))

    def test_the_row_without_places(self):
        self.assertEqual(look(PATH, ()), ((), (), ()))

    def test_rows_of_one_to_four(self):
        web = Web(3, (7, 8, 9), ((0, 0, 0), (1, 0, 2), (3, 2, 1)))
        self.assertEqual(look(web, (0,)), ((7,), (), ((0, 0, 0),)))
        self.assertEqual(look(web, (2, 0)), ((9, 7), (), ((0, 1, 1), (1, 1, 0))))
        self.assertEqual(look(web, (1, 2, 1)), ((8, 9, 8), ((0, 2),), ((3, 1, 0), (3, 1, 2))))
        self.assertEqual(look(web, (1, 1, 1, 1)),
                         ((8, 8, 8, 8), ((0, 1), (0, 2), (0, 3), (1, 2), (1, 3), (2, 3)), ()))
        self.assertEqual(look(web, (0, 0)), ((7, 7), ((0, 1),), ((0, 0, 0), (0, 0, 1), (0, 1, 0), (0, 1, 1))))

    def test_all_rows_by_words(self):
        for web in small_webs(20, 3):
            for most in range(5):
                for row in itertools.product(range(web.many), repeat=most):
                    self.assertEqual(look(web, row), look_by_words(web, row))

    def test_a_thick_web_of_many_places(self):
        web = web_with_ties(40, 1600)
        for row in ((0, 39, 20, 0), (39,), (1, 2, 3, 4)):
            self.assertEqual(look(web, row), look_by_words(web, row))

    def test_what_is_no_row(self):
        for row in ((0, 0, 0, 0, 0), (3,), (0, 3), (-1,), (0, 1, 2, 3), [], [0], (True,), (0, False), ("0",), "0", "",
                    None, 0, range(1), {}, {0: 0}, ((0,),), (None,), (10 ** 30 - 1,)):
            self.assertEqual(told_error(look, PATH, row), (NoRow, {}), row)

    def test_wrong_things(self):
        for at, thing in enumerate(wrong_things()):
            self.assertEqual(told_error(look, PATH, thing), (NoRow, {}), at)
            self.assertEqual(told_error(look, PATH, (0, thing)), (NoRow, {}), at)
            self.assertEqual(told_error(look, PATH, (thing, 0, 0, 0)), (NoRow, {}), at)


class Keeping(unittest.TestCase):
    def test_webs_do_not_change(self):
        for web in small_webs(20):
            before = copy.deepcopy((web.many, web.hues, web.ties))
            order = tuple(reversed(range(web.many)))
            again = [(renamed(web, order), beside(web, web), look(web, (0, 0))) for _ in range(2)]
            self.assertEqual(again[0], again[1])
            told_error(renamed, web, None)
            told_error(look, web, None)
            self.assertEqual((web.many, web.hues, web.ties), before)

    def test_a_wrong_list_is_not_changed(self):
        ties = [(0, 1, 0), (0, 0, 1)]
        told_error(Web, 2, (0, 0), ties)
        self.assertEqual(ties, [(0, 1, 0), (0, 0, 1)])

    def test_results_are_plain_tuples(self):
        web = beside(renamed(ring(4), (3, 1, 0, 2)), ring(3))
        self.assertIs(type(web.hues), tuple)
        self.assertIs(type(web.ties), tuple)
        self.assertTrue(all(type(tie) is tuple for tie in web.ties))
        self.assertTrue(all(type(part) is tuple for part in look(web, (0, 1, 1))))


if __name__ == "__main__":
    unittest.main()
