"""What sayings are true of. (0.2 to 0.5, 3.2)"""

import copy
import itertools
import random
import unittest

from levelkin.errors import NoName, NoPlaces, NoSaying
from levelkin.sayings import free, holds, many_that
from levelkin.webs import Web, beside

from tests.second_sayings import chance_saying, chance_sayings, holds_by_words, long_sayings
from tests.test_sayings import no_sayings
from tests.things import PATH, bare, chance_web, path, ring, small_webs, told_error, wrong_things

TIE = ("tie", 0, 0, 1)
TIED = (TIE, ("many", 1, 2, 0))
NO_NAMES = (4, -1, True, False, None, "0", (0,), [0], {0: 0}, b"0", 10 ** 30 - 1, bare(1), NoName())


def all_places(web, lot):
    """All ways in which these names name places."""
    for places in itertools.product(range(web.many), repeat=len(lot)):
        yield dict(zip(lot, places))


def no_places(web, needed):
    """What does not tell places for the needed names, one at least, of a web: of all kinds."""
    right = {name: 0 for name in needed}
    wrong = [thing for thing in wrong_things() if not isinstance(thing, dict) or thing != {0: 0}]
    wrong.extend({other: place for other, place in right.items() if other != name} for name in needed)
    wrong.extend({**right, name: web.many} for name in range(4))
    wrong.extend({**right, name: place} for name in range(4) for place in (-1, True, None, "0", (0,), [0], 10 ** 29))
    wrong.extend({**right, key: 0} for key in (4, -1, "0", None, (0,), (), 10 ** 29, b""))
    wrong.extend([list(right.items()), tuple(right.items()), [0, 0, 0, 0], (0, 0, 0, 0), right.items()])
    return wrong


class Holds(unittest.TestCase):
    def check(self, web, saying, places, due):
        before = copy.deepcopy((web, saying, places))
        self.assertIs(holds(web, saying, places), due, (saying, places))
        self.assertEqual((web, saying, places), before)

    def test_the_example(self):
        self.check(PATH, TIED, {0: 1}, True)
        self.check(PATH, TIED, {0: 0}, False)

    def test_each_kind_of_line(self):
        web = Web(3, (5, 0, 5), ((0, 0, 1), (2, 1, 1), (3, 2, 0)))
        self.check(web, (("hue", 2, 5),), {2: 2}, True)
        self.check(web, (("hue", 2, 5),), {2: 1}, False)
        self.check(web, (("same", 1, 3),), {1: 2, 3: 2}, True)
        self.check(web, (("same", 1, 3),), {1: 2, 3: 0}, False)
        self.check(web, (("tie", 3, 1, 0),), {1: 2, 0: 0}, True)
        self.check(web, (("tie", 3, 0, 1),), {1: 2, 0: 0}, False)
        self.check(web, (("tie", 2, 0, 1),), {1: 1, 0: 1}, True)
        self.check(web, (("tie", 2, 3, 3),), {3: 1}, True)
        self.check(web, (("tie", 1, 3, 3),), {3: 1}, False)
        self.check(web, (("hue", 0, 5), ("not", 0)), {0: 1}, True)
        self.check(web, (("hue", 0, 5), ("hue", 1, 0), ("all", (0, 1))), {0: 0, 1: 1}, True)
        self.check(web, (("hue", 0, 5), ("hue", 1, 0), ("all", (0, 1))), {0: 0, 1: 0}, False)
        self.check(web, (("hue", 0, 5), ("hue", 1, 0), ("some", (0, 1))), {0: 0, 1: 0}, True)
        self.check(web, (("hue", 0, 5), ("hue", 1, 0), ("some", (0, 1))), {0: 1, 1: 0}, False)
        self.check(web, (("hue", 0, 5), ("many", 0, 2, 0)), {}, True)
        self.check(web, (("hue", 0, 5), ("many", 0, 3, 0)), {}, False)

    def test_empty_all_and_some(self):
        for web in (bare(1), PATH):
            self.check(web, (("all", ()),), {}, True)
            self.check(web, (("some", ()),), {}, False)
            self.check(web, (("all", ()),), {2: 0}, True)
            self.check(web, (("some", ()), ("not", 0)), {}, True)

    def test_as_many_places_as_there_are_and_more(self):
        for many in (1, 2, 3, 39, 40):
            for least in (1, 2, 3, 38, 39, 40):
                for name in range(4):
                    self.check(bare(many), (("all", ()), ("many", name, least, 0)), {}, least <= many)
                    self.check(bare(many), (("same", name, name), ("many", name, least, 0)), {}, least <= many)
                    # A name that the line does not have is counted, too.
                    self.check(bare(many), (("hue", 3 - name, 0), ("many", name, least, 0)), {3 - name: 0},
                               least <= many)
                self.check(bare(many), (("some", ()), ("many", 0, least, 0)), {}, False)

    def test_places_for_more_names_than_are_free(self):
        for more in ({}, {3: 2}, {1: 0, 2: 2}, {1: 1, 2: 1, 3: 1}):
            self.check(PATH, TIED, {0: 1, **more}, True)
            self.check(PATH, TIED, {0: 2, **more}, False)

    def test_a_many_names_anew(self):
        # Outside 1 names place 0, inside it is named anew.
        saying = (TIE, ("many", 1, 2, 0), ("same", 1, 2), ("all", (1, 2)))
        self.check(PATH, saying, {0: 1, 1: 0, 2: 0}, True)
        self.check(PATH, saying, {0: 1, 1: 0, 2: 1}, False)
        self.check(PATH, (TIE, ("many", 0, 1, 0), ("many", 0, 3, 1), ("not", 2)), {1: 1}, False)

    def test_counting_by_words(self):
        chance = random.Random(31)
        for _ in range(60):
            web = chance_web(chance, chance.randrange(1, 12), 2, 1, chance.randrange(2, 9))
            for least in range(1, 13):
                for name in range(2):
                    saying = (("tie", 0, 0, 1), ("many", name, least, 0))
                    for place in range(web.many):
                        self.check(web, saying, {1 - name: place}, holds_by_words(web, saying, {1 - name: place}))

    def test_by_words(self):
        chance = random.Random(32)
        webs = [*small_webs(25), path(4), ring(5), Web(2, (1, 2), ((0, 0, 0), (3, 0, 1)))]
        for saying in chance_sayings(chance, 400):
            web = chance.choice(webs)
            for places in all_places(web, free(saying)):
                self.check(web, saying, places, holds_by_words(web, saying, places))

    def test_inner_names_of_each_kind_by_words(self):
        chance = random.Random(33)
        for web in (Web(3, (0, 1, 2), ((0, 0, 1), (1, 1, 2), (2, 2, 2))), chance_web(chance, 4, 3, 4, 4)):
            for i, j, bound in itertools.product(range(4), range(4), range(4)):
                for kind in range(3):
                    saying = (("tie", kind, i, j), ("same", j, i), ("hue", 3 - i, 1), ("some", (0, 1, 2)), ("not", 3),
                              ("many", bound, 2, 4), ("all", (5, 3)))
                    for places in all_places(web, free(saying)):
                        self.check(web, saying, places, holds_by_words(web, saying, places))

    def test_thousands_of_lines(self):
        nots, manys, alls, somes, mixed = long_sayings(4001)
        for web in (PATH, ring(6)):
            self.check(web, nots, {0: 1, 1: 2}, True)
            self.check(web, nots[:-1], {0: 1, 1: 2}, False)
            self.check(web, manys, {}, True)
            self.check(web, alls, {0: 1, 1: 2}, True)
            self.check(web, somes, {0: 1, 1: 1}, False)
            # What is told again and again of places that are far apart: not, many, some, all.
            self.check(web, mixed, {0: 1, 1: 2}, holds_by_words(web, mixed[:17], {0: 1, 1: 2}))
        self.check(ring(40), manys, {}, True)
        self.check(bare(40), manys, {}, False)

    def test_lines_that_are_told_on_many_ways(self):
        for kind in ("all", "some"):
            saying = (TIE, *[(kind, (at, at, at // 2)) for at in range(800)])
            self.check(PATH, saying, {0: 0, 1: 1}, True)
            self.check(PATH, saying, {0: 0, 1: 2}, False)

    def test_large_webs(self):
        web = beside(ring(20), ring(20))
        # From 0 to 1 there are three steps, by names that are used again.
        saying = (("tie", 0, 0, 2), ("tie", 0, 2, 3), ("tie", 0, 3, 1), ("all", (1, 2)), ("many", 3, 1, 3),
                  ("all", (0, 4)), ("many", 2, 1, 5))
        for there, due in ((1, True), (3, True), (19, True), (17, True), (0, False), (2, False), (20, False)):
            self.check(web, saying, {0: 0, 1: there}, due)
        four = (("same", 0, 1), ("same", 2, 3), ("all", (0, 1)), ("many", 1, 1, 2), ("many", 3, 1, 3),
                ("many", 0, 40, 4))
        self.check(web, four, {2: 39}, True)

    def test_wrong_arguments(self):
        for thing in no_sayings():
            self.assertEqual(told_error(holds, PATH, thing, {0: 0}), (NoSaying, {}))
        # The first error that is due.
        self.assertEqual(told_error(holds, PATH, (), None), (NoSaying, {}))
        for saying in (TIED, (TIE,), (("all", ()), ("hue", 3, 0), ("some", (1,)))):
            for thing in no_places(PATH, free(saying)):
                self.assertEqual(told_error(holds, PATH, saying, thing), (NoPlaces, {}), thing)

    def test_places_of_other_webs(self):
        self.assertEqual(told_error(holds, PATH, TIED, {0: 3}), (NoPlaces, {}))
        self.assertEqual(told_error(holds, bare(4), TIED, {0: 3}), None)
        self.assertEqual(told_error(holds, bare(4), TIED, {0: 3, 2: 4}), (NoPlaces, {}))


class ManyThat(unittest.TestCase):
    def test_the_example(self):
        self.assertEqual(many_that(PATH, TIED, 0, {}), 1)

    def test_by_words(self):
        chance = random.Random(34)
        webs = [*small_webs(25), path(4), ring(5)]
        for saying in chance_sayings(chance, 300):
            web = chance.choice(webs)
            for name in range(4):
                others = [other for other in free(saying) if other != name]
                for places in all_places(web, others):
                    due = sum(holds_by_words(web, saying, {**places, name: place}) for place in range(web.many))
                    before = copy.deepcopy(places)
                    found = many_that(web, saying, name, places)
                    self.assertIs(type(found), int)
                    self.assertEqual(found, due)
                    self.assertEqual(places, before)

    def test_places_with_the_name_and_without(self):
        for place in range(3):
            self.assertEqual(many_that(PATH, (TIE,), 0, {1: 1, 0: place}), 2)
            self.assertEqual(many_that(PATH, (TIE,), 1, {1: place, 0: 2}), 1)
        self.assertEqual(many_that(PATH, (TIE,), 0, {1: 1}), 2)
        self.assertEqual(many_that(PATH, (TIE,), 0, {1: 1, 3: 0}), 2)

    def test_a_name_that_the_saying_does_not_have(self):
        for name in (2, 3):
            self.assertEqual(many_that(PATH, (TIE,), name, {0: 0, 1: 1}), 3)
            self.assertEqual(many_that(PATH, (TIE,), name, {0: 0, 1: 2}), 0)
        # Within, the name is bound.
        self.assertEqual(many_that(PATH, (TIE, ("many", 0, 1, 0), ("many", 1, 3, 1)), 1, {}), 3)
        self.assertEqual(many_that(bare(40), (("all", ()),), 0, {}), 40)

    def test_wrong_arguments(self):
        for thing in no_sayings():
            self.assertEqual(told_error(many_that, PATH, thing, 0, {1: 0}), (NoSaying, {}))
        self.assertEqual(told_error(many_that, PATH, (), 9, None), (NoSaying, {}))
        for thing in [*NO_NAMES, *wrong_things()]:
            self.assertEqual(told_error(many_that, PATH, (TIE,), thing, {0: 0, 1: 0}), (NoName, {}))
            self.assertEqual(told_error(many_that, PATH, (TIE,), thing, None), (NoName, {}))
        for thing in no_places(PATH, (1,)):
            self.assertEqual(told_error(many_that, PATH, (TIE,), 0, thing), (NoPlaces, {}), thing)
        self.assertEqual(told_error(many_that, PATH, (TIE,), 0, {0: 0}), (NoPlaces, {}))
        self.assertEqual(told_error(many_that, PATH, (TIE,), 2, {0: 0}), (NoPlaces, {}))
        self.assertEqual(told_error(many_that, PATH, (TIE,), 0, {1: 0, 0: 3}), (NoPlaces, {}))
        self.assertEqual(told_error(many_that, PATH, (TIE,), 0, {1: 0, 2: "0"}), (NoPlaces, {}))


class Again(unittest.TestCase):
    def test_equal_calls_give_equal_answers(self):
        chance = random.Random(35)
        saying = chance_saying(chance, 12)
        places = {name: 1 for name in range(4)}
        first = [holds(web, saying, places) for web in (PATH, ring(5))]
        many_that(PATH, saying, 0, places)
        self.assertEqual([holds(web, saying, places) for web in (PATH, ring(5))], first)


if __name__ == "__main__":
    unittest.main()
