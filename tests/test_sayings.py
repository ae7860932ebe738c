"""Sayings: lines, free names, all names, depths. (0.2 to 0.5, 3.1)"""

import copy
import random
import unittest

from levelkin.errors import NoSaying
from levelkin.sayings import depth, free, is_saying, names
from levelkin.webs import Web

from tests.second_sayings import (
    chance_sayings, depth_by_words, free_by_words, long_sayings, names_by_words,
)
from tests.things import told_error, wrong_things

HEAD = (("hue", 0, 0), ("tie", 3, 2, 3))
# Lines that may stand behind two others.
RIGHT = (
    ("hue", 0, 0), ("hue", 3, 9), ("hue", 2, 5), ("same", 0, 0), ("same", 3, 0), ("same", 1, 2),
    ("tie", 0, 0, 0), ("tie", 3, 3, 3), ("tie", 1, 2, 0), ("not", 0), ("not", 1),
    ("all", ()), ("all", (0,)), ("all", (1, 0)), ("all", (1, 1, 0, 1)), ("some", ()), ("some", (1,)), ("some", (0, 0)),
    ("many", 0, 1, 0), ("many", 3, 40, 1), ("many", 2, 17, 1),
)
# The same with one thing otherwise.
WRONG = (
    ("hue", 4, 0), ("hue", -1, 0), ("hue", 0, 10), ("hue", 0, -1), ("hue", True, 0), ("hue", 0, False),
    ("hue", 0), ("hue", 0, 0, 0), ("hue", (0,), 0), ("hue", "0", 0), ("hue", 0, None), ("hue",),
    ("same", 4, 0), ("same", 0, 4), ("same", -1, 0), ("same", 0, -1), ("same", True, 0), ("same", 0, True),
    ("same", 0), ("same", 0, 0, 0), ("same", (0, 0)),
    ("tie", 4, 0, 0), ("tie", -1, 0, 0), ("tie", 0, 4, 0), ("tie", 0, 0, 4), ("tie", 0, -1, 0), ("tie", 0, 0, -1),
    ("tie", True, 0, 0), ("tie", 0, True, 0), ("tie", 0, 0, False), ("tie", 0, 0), ("tie", 0, 0, 0, 0),
    ("tie", 0, [0], 0),
    ("not", 2), ("not", 3), ("not", -1), ("not", True), ("not", (0,)), ("not",), ("not", 0, 0), ("not", None),
    ("all", (2,)), ("all", (0, 3)), ("all", (-1,)), ("all", (True,)), ("all", [0]), ("all", []), ("all", 0), ("all",),
    ("all", (0,), (1,)), ("all", ((0,),)), ("all", {}), ("all", ""), ("all", 0, 1),
    ("some", (2,)), ("some", (3, 0)), ("some", (-1,)), ("some", (False,)), ("some", [0]), ("some", 0), ("some",),
    ("some", (0,), 0), ("some", "01"), ("some", range(1)),
    ("many", 4, 1, 0), ("many", -1, 1, 0), ("many", 0, 0, 0), ("many", 0, 41, 0), ("many", 0, -1, 0),
    ("many", 0, 1, 2), ("many", 0, 1, 9), ("many", 0, 1, -1), ("many", True, 1, 0), ("many", 0, True, 0),
    ("many", 0, 1, True), ("many", 0, 1), ("many", 0, 1, 0, 0), ("many", 0, 1, (0,)), ("many", (0,), 1, 0),
    ("many", 10 ** 30 - 1, 1, 0), ("many", 0, 10 ** 30 - 1, 0), ("many", 0, 1, 10 ** 30 - 1),
    ["hue", 0, 0], ["not", 0], (), ("",), ("", 0), ("hues", 0, 0), ("Hue", 0, 0), ("hue ", 0, 0), (b"hue", 0, 0),
    (0, 0, 0), (None, 0), ("any", (0,)), (("hue",), 0, 0), "hue", None, 0, {"hue": 0},
)
TOLD = (free, names, depth)


def no_sayings():
    """What is no saying, of all kinds."""
    things = [*wrong_things(), (), [("hue", 0, 0)], ("hue", 0, 0), [HEAD], (HEAD,), {0: ("hue", 0, 0)}, (("not", 0),)]
    return things + [HEAD + (line,) for line in WRONG] + [(line,) + HEAD for line in WRONG]


class IsSaying(unittest.TestCase):
    def check(self, thing, due):
        self.assertIs(is_saying(thing), due, thing)
        for call in TOLD:
            self.assertEqual(told_error(call, thing), None if due else (NoSaying, {}), thing)

    def test_right_lines(self):
        for line in RIGHT:
            self.check(HEAD + (line,), True)
            self.check(HEAD + (line, ("hue", 1, 1)), True)
            self.check((*HEAD, line, ("all", (2, 1, 0)), ("not", 3)), True)

    def test_lines_with_one_thing_otherwise(self):
        for line in WRONG:
            self.check(HEAD + (line,), False)
            self.check(HEAD + (line, ("hue", 1, 1)), False)
            self.check((line,), False)

    def test_a_line_tells_only_those_ahead_of_it(self):
        for at in range(4):
            for line in (("not", at), ("many", 0, 1, at), ("all", (0, at)), ("some", (at,))):
                for behind in range(1, 4):
                    saying = (("hue", 0, 0),) * behind + (line,) + (("hue", 0, 0),) * 4
                    self.check(saying, at < behind)

    def test_the_first_line_tells_none(self):
        for line in (("all", ()), ("some", ()), ("same", 0, 0)):
            self.check((line,), True)
        for line in (("all", (0,)), ("some", (0,)), ("not", 0), ("many", 0, 1, 0)):
            self.check((line,), False)

    def test_no_lines_at_all_and_no_tuples(self):
        for thing in no_sayings():
            if not isinstance(thing, tuple) or len(thing) < 1000:
                self.check(thing, False)
        self.check((None,) * 99999, False)
        self.check([*HEAD], False)
        self.check((list(HEAD[0]), HEAD[1]), False)

    def test_wrong_things_as_lines_and_within_them(self):
        for thing in wrong_things():
            self.assertIs(is_saying((thing,)), False)
            self.assertIs(is_saying((*HEAD, thing)), False)
            if not isinstance(thing, (str, tuple)):
                self.assertIs(is_saying((*HEAD, (thing, 0, 0))), False)
            for line in (("hue", thing, 0), ("hue", 0, thing), ("same", thing, 0), ("tie", thing, 0, 0), ("not", thing),
                         ("tie", 0, 0, thing), ("all", thing), ("some", (thing,)), ("many", thing, 1, 0),
                         ("many", 0, thing, 0), ("many", 0, 1, thing)):
                right = line == ("all", (0,) * 99999)
                self.assertIs(is_saying((*HEAD, line)), right)

    def test_many_lines(self):
        self.check((("hue", 0, 0),) * 30000, True)
        self.check((("hue", 0, 0), ("all", (0,) * 90000)), True)
        self.check((("hue", 0, 0), ("all", (0,) * 90000 + (1,))), False)


class Told(unittest.TestCase):
    def check(self, saying, lot, whole, deep):
        self.assertEqual((free(saying), names(saying), depth(saying)), (lot, whole, deep))

    def test_the_example(self):
        self.check((("tie", 0, 0, 1), ("many", 1, 2, 0)), (0,), (0, 1), 1)

    def test_of_each_kind(self):
        self.check((("hue", 2, 1),), (2,), (2,), 0)
        self.check((("same", 3, 1),), (1, 3), (1, 3), 0)
        self.check((("same", 1, 1),), (1,), (1,), 0)
        self.check((("tie", 2, 3, 0),), (0, 3), (0, 3), 0)
        self.check((("tie", 2, 0, 1), ("not", 0)), (0, 1), (0, 1), 0)
        self.check((("all", ()),), (), (), 0)
        self.check((("some", ()),), (), (), 0)
        self.check((("hue", 3, 0), ("hue", 1, 0), ("some", (0, 1))), (1, 3), (1, 3), 0)
        self.check((("hue", 3, 0), ("hue", 1, 0), ("all", (0, 1, 0))), (1, 3), (1, 3), 0)

    def test_a_many_takes_its_own_name_away(self):
        self.check((("tie", 0, 0, 1), ("many", 0, 1, 0)), (1,), (0, 1), 1)
        self.check((("tie", 0, 0, 1), ("many", 3, 1, 0)), (0, 1), (0, 1, 3), 1)
        self.check((("tie", 0, 0, 1), ("many", 0, 1, 0), ("many", 1, 1, 1)), (), (0, 1), 2)
        self.check((("tie", 0, 0, 1), ("many", 0, 1, 0), ("all", (0, 1))), (0, 1), (0, 1), 1)
        self.check((("some", ()), ("many", 2, 40, 0)), (), (2,), 1)
        # Inside one name is bound, outside it is free.
        self.check((("hue", 1, 1), ("many", 1, 1, 0), ("same", 1, 2), ("all", (1, 2))), (1, 2), (1, 2), 1)

    def test_names_in_lines_that_are_not_told_count_for_nothing(self):
        self.check((("tie", 0, 2, 3), ("hue", 0, 0)), (0,), (0,), 0)
        self.check((("tie", 0, 2, 3), ("many", 1, 1, 0), ("all", ())), (), (), 0)
        self.check((("hue", 3, 0), ("many", 2, 1, 0), ("hue", 0, 0), ("not", 2)), (0,), (0,), 0)

    def test_the_deepest_of_lines(self):
        saying = (("hue", 0, 0), ("many", 0, 1, 0), ("many", 0, 1, 1), ("all", (0, 2, 1)), ("some", (0, 1)))
        self.assertEqual([depth(saying[:many]) for many in range(1, 6)], [0, 1, 2, 2, 1])

    def test_by_words(self):
        chance = random.Random(21)
        for saying in chance_sayings(chance, 1500):
            before = copy.deepcopy(saying)
            self.assertIs(is_saying(saying), True)
            self.check(saying, tuple(sorted(free_by_words(saying))), tuple(sorted(names_by_words(saying))),
                       depth_by_words(saying))
            self.assertEqual(saying, before)

    def test_kinds_of_values(self):
        saying = (("tie", 0, 0, 1), ("many", 1, 2, 0))
        self.assertIs(type(free(saying)), tuple)
        self.assertIs(type(names(saying)), tuple)
        self.assertIs(type(depth(saying)), int)

    def test_thousands_of_lines(self):
        nots, manys, alls, somes, mixed = long_sayings(6000)
        self.check(nots, (0, 1), (0, 1), 0)
        self.check(manys, (), (0, 1, 2, 3), 5999)
        self.check(alls, (0, 1), (0, 1), 0)
        self.check(somes, (0, 1), (0, 1), 0)
        self.check(mixed, (0,), (0, 1), 1500)

    def test_lines_that_are_told_on_many_ways(self):
        saying = (("hue", 2, 3), *[("all", (at, at)) for at in range(500)])
        self.check(saying, (2,), (2,), 0)
        saying = (("hue", 2, 3), *[("all", tuple(range(at + 1))) for at in range(300)], ("many", 1, 1, 300))
        self.check(saying, (2,), (1, 2), 1)

    def test_what_was_asked_ahead_changes_nothing(self):
        told = [[call(saying) for call in TOLD] for saying in chance_sayings(random.Random(5), 20)]
        again = [[call(saying) for call in reversed(TOLD)] for saying in chance_sayings(random.Random(5), 20)]
        self.assertEqual(told, [list(reversed(values)) for values in again])

    def test_wrong_arguments(self):
        for thing in no_sayings():
            for call in TOLD:
                self.assertEqual(told_error(call, thing), (NoSaying, {}))
        self.assertEqual(told_error(free, Web(1, (0,), ())), (NoSaying, {}))


if __name__ == "__main__":
    unittest.main()
