"""Sayings turned, and plain ones. (0.2 to 0.5, 3.4)"""

import copy
import itertools
import random
import unittest

from levelkin.errors import NoOrder, NoSaying
from levelkin.sayings import depth, free, holds, is_saying, names, plain, turned

from tests.second_sayings import chance_sayings, lines_told, long_sayings
from tests.test_sayings import no_sayings
from tests.test_truth import all_places
from tests.things import PATH, bare, chance_web, ring, small_webs, told_error, wrong_things

ORDERS = list(itertools.permutations(range(4)))
TIE = ("tie", 0, 0, 1)


def back(order):
    return tuple(order.index(name) for name in range(4))


def all_told(saying):
    """The numbers of the last line and of all that it tells, itself or through others."""
    found = {len(saying) - 1}
    for at in range(len(saying) - 1, -1, -1):
        if at in found:
            found.update(lines_told(saying[at]))
    return found


class Turned(unittest.TestCase):
    def test_each_kind_of_line(self):
        saying = (("hue", 0, 7), ("same", 1, 2), ("tie", 3, 3, 0), ("not", 2), ("all", (0, 1)), ("some", (3,)),
                  ("many", 2, 3, 4))
        self.assertEqual(turned(saying, (1, 2, 3, 0)), (
            ("hue", 1, 7), ("same", 2, 3), ("tie", 3, 0, 1), ("not", 2), ("all", (0, 1)), ("some", (3,)),
            ("many", 3, 3, 4)))
        self.assertEqual(turned(saying, (0, 1, 2, 3)), saying)

    def test_by_an_order_and_by_the_order_back(self):
        chance = random.Random(41)
        webs = small_webs(20)
        for saying in chance_sayings(chance, 250):
            order = chance.choice(ORDERS)
            before = copy.deepcopy(saying)
            found = turned(saying, order)
            self.assertEqual(saying, before)
            self.assertIs(is_saying(found), True)
            self.assertEqual(len(found), len(saying))
            self.assertEqual(turned(found, back(order)), saying)
            self.assertEqual(free(found), tuple(sorted(order[name] for name in free(saying))))
            self.assertEqual(names(found), tuple(sorted(order[name] for name in names(saying))))
            self.assertEqual(depth(found), depth(saying))
            web = chance.choice(webs)
            for places in all_places(web, free(saying)):
                there = {order[name]: place for name, place in places.items()}
                self.assertIs(holds(web, found, there), holds(web, saying, places))

    def test_one_order_behind_another(self):
        chance = random.Random(42)
        for saying in chance_sayings(chance, 30):
            for one in ORDERS[::5]:
                for other in ORDERS[::7]:
                    both = tuple(other[name] for name in one)
                    self.assertEqual(turned(turned(saying, one), other), turned(saying, both))

    def test_lines_that_are_not_told_are_turned_as_well(self):
        self.assertEqual(turned((("hue", 3, 0), ("hue", 0, 0)), (3, 0, 1, 2)), (("hue", 2, 0), ("hue", 3, 0)))

    def test_thousands_of_lines(self):
        for saying in long_sayings(5000):
            found = turned(saying, (2, 3, 1, 0))
            self.assertEqual((len(found), depth(found)), (5000, depth(saying)))
            self.assertEqual(turned(found, back((2, 3, 1, 0))), saying)

    def test_wrong_arguments(self):
        for thing in no_sayings():
            self.assertEqual(told_error(turned, thing, (0, 1, 2, 3)), (NoSaying, {}))
        self.assertEqual(told_error(turned, (), None), (NoSaying, {}))
        for thing in [*wrong_things(), [0, 1, 2, 3], (0, 1, 2), (0, 1, 2, 3, 4), (0, 1, 2, 2), (1, 2, 3, 4),
                      (0, 1, 2, -1),
                      (False, 1, 2, 3), (0, True, 2, 3), ("0", 1, 2, 3), ((0, 1, 2, 3),), {0: 0, 1: 1, 2: 2, 3: 3},
                      "0123", b"\x00\x01\x02\x03", range(4)]:
            self.assertEqual(told_error(turned, (TIE,), thing), (NoOrder, {}), thing)


class Plain(unittest.TestCase):
    def check(self, saying, webs):
        before = copy.deepcopy(saying)
        found = plain(saying)
        self.assertEqual(saying, before)
        self.assertEqual(plain(saying), found)
        self.check_form(saying, found)
        for web in webs:
            for places in all_places(web, free(saying)):
                self.assertIs(holds(web, found, places), holds(web, saying, places))

    def check_form(self, saying, found):
        self.assertIs(is_saying(found), True)
        self.assertTrue(set(free(found)) <= set(free(saying)))
        self.assertLessEqual(depth(found), depth(saying))
        self.assertEqual(len(set(found)), len(found))
        self.assertEqual(all_told(found), set(range(len(found))))
        for line in found:
            self.assertNotEqual(line[0], "some")
            if line[0] == "same":
                self.assertNotEqual(line[1], line[2])

    def test_without_some(self):
        for inner in ((), (0,), (1,), (0, 1), (1, 0, 1)):
            saying = (("hue", 0, 1), ("hue", 1, 1), ("some", inner))
            self.check(saying, small_webs(20))
            self.check((*saying, ("not", 2)), small_webs(20))
            self.check((*saying, ("many", 0, 2, 2), ("some", (3, 2))), small_webs(20))

    def test_same_of_one_name_with_itself(self):
        for name in range(4):
            saying = (("same", name, name),)
            self.check(saying, small_webs(5))
            self.check((*saying, ("not", 0)), small_webs(5))
            self.check((*saying, ("many", name, 3, 0)), small_webs(20))
            self.check((*saying, ("same", 0, 1), ("some", (0, 1)), ("all", (2, 1, 2))), small_webs(10))
        self.check((("same", 0, 1),), small_webs(10))
        self.check((("same", 0, 1), ("same", 1, 0), ("all", (0, 1))), small_webs(10))

    def test_lines_twice_and_lines_that_are_not_told(self):
        self.check((TIE, TIE), [PATH])
        self.check((TIE, TIE, ("all", (0, 1))), [PATH])
        self.check((TIE, TIE, ("not", 0), ("not", 1), ("all", (2, 3)), ("not", 2), ("all", (5, 4, 3))), [PATH])
        self.check((("hue", 0, 0), ("many", 2, 1, 0), TIE), [PATH])
        self.check((("all", ()), ("same", 2, 2), ("all", ()), ("all", (0, 1, 2))), [PATH])
        self.check((("some", ()), ("all", ()), ("not", 1), ("some", (0, 2))), [PATH])
        self.check((("some", ()),), [PATH])
        self.assertEqual(plain((TIE, ("hue", 3, 3), ("many", 1, 1, 0), ("many", 1, 1, 0))), (TIE, ("many", 1, 1, 0)))

    def test_of_sayings_by_chance(self):
        chance = random.Random(43)
        webs = [*small_webs(12, 3), chance_web(chance, 3, 3, 4, 4)]
        for saying in chance_sayings(chance, 600):
            self.check(saying, [chance.choice(webs)])

    def test_a_plain_one_is_plain(self):
        chance = random.Random(44)
        for saying in chance_sayings(chance, 100):
            self.check_form(plain(saying), plain(plain(saying)))

    def test_sayings_that_are_true_or_not_of_anything(self):
        for saying in ((("all", ()),), (("some", ()),), (("same", 0, 1), ("not", 0), ("all", (0, 1)), ("not", 2)),
                       (("same", 3, 3), ("not", 0)), (("same", 0, 0), ("many", 0, 1, 0)),
                       (("some", ()), ("many", 2, 40, 0), ("not", 1))):
            self.check(saying, [bare(1), PATH])

    def test_thousands_of_lines(self):
        for saying in long_sayings(5000):
            found = plain(saying)
            self.check_form(saying, found)
            places = {0: 0, 1: 1}
            self.assertIs(holds(ring(4), found, places), holds(ring(4), saying, places))
        saying = (TIE,) * 5000 + (("all", tuple(range(5000))),)
        self.assertLessEqual(len(plain(saying)), 2)

    def test_wrong_arguments(self):
        for thing in no_sayings():
            self.assertEqual(told_error(plain, thing), (NoSaying, {}))


if __name__ == "__main__":
    unittest.main()
