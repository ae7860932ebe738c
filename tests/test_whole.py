"""What is promised over the whole program. (0.2 to 0.5)"""

import copy
import random
import sys
import unittest

from levelkin import bases, colours, desk, games, machines, partings, playing, refusals, sayings, shares, shelves
from levelkin import texts, tongue, turnings, twists, webs
from levelkin.bases import Base
from levelkin.errors import KinError
from levelkin.webs import Web

from tests.second_sayings import long_sayings
from tests.test_portraits import SIX, TWO
from tests.things import PATH, bare, path, ring, told_error, wrong_things

SAYING = (("tie", 0, 0, 1), ("same", 2, 2), ("many", 1, 2, 0), ("some", (2, 1)), ("many", 0, 1, 3))
OTHER = webs.renamed(PATH, (1, 0, 2))
TRIANGLE = Base(3, ((0, 1), (0, 2), (1, 2)))


def first(standing, order):
    return 0, None if not standing[0] else 0


def second(standing):
    return 0, 1, 2


def machine_state(state, heard):
    return len(str((state, heard)))


def teller(saying):
    return sayings.holds(PATH, saying, {})


MACHINE = (lambda look: look, lambda state: 0, machine_state)


def calls():
    """Calls of all functions of the interface, with new arguments each time."""
    return [
        (webs.Web, 2, (0, 1), ((0, 0, 1),)), (webs.renamed, PATH, (1, 0, 2)), (webs.beside, PATH, SIX),
        (webs.look, PATH, (0, 1, 0)), (turnings.turning, PATH, OTHER), (turnings.is_turning, PATH, OTHER, (1, 0, 2)),
        (turnings.many_turnings, PATH), (colours.colouring, [PATH, SIX], 2), (colours.colouring, (PATH,), 1),
        (colours.is_closed, [PATH], 1, [{(): 0, (0,): 1, (1,): 2, (2,): 1}]), (colours.alike, SIX, TWO, 2),
        (colours.portrait, PATH, 2), (sayings.is_saying, SAYING), (sayings.is_saying, [SAYING, {}]),
        (sayings.free, SAYING), (sayings.names, SAYING), (sayings.depth, SAYING),
        (sayings.holds, PATH, SAYING, {0: 1, 2: 2}), (sayings.many_that, PATH, SAYING, 1, {2: 0}),
        (sayings.turned, SAYING, (3, 2, 1, 0)), (sayings.plain, SAYING), (partings.parting, SIX, TWO, 2),
        (partings.is_parting, SIX, TWO, 2, SAYING), (partings.marks, [PATH, SIX], 1, 2),
        (games.hold, PATH, OTHER, 2), (games.hold, SIX, TWO, 1), (games.plan, SIX, TWO, 2), (games.fewest, SIX, TWO, 2),
        (games.is_hold, PATH, OTHER, 1, games.hold(PATH, OTHER, 1)),
        (games.is_plan, SIX, TWO, 2, games.plan(SIX, TWO, 2)), (playing.played, PATH, OTHER, 1, first, second, 4),
        (shares.shares, PATH, OTHER, 1), (shares.is_shares, PATH, OTHER, 1, shares.shares(PATH, OTHER, 1)),
        (refusals.refusal, PATH, bare(3), 1), (refusals.is_refusal, PATH, bare(3), 1, {((), 0, 0): 1}),
        (bases.Base, 2, ((0, 1),)), (bases.bags, TRIANGLE, 2), (bases.haven, TRIANGLE, 1), (bases.width, TRIANGLE),
        (bases.is_bags, TRIANGLE, 2, (((0, 1, 2),), ())), (bases.is_bags, TRIANGLE, 2, [[[0, 1, 2]], []]),
        (bases.is_haven, TRIANGLE, 1, bases.haven(TRIANGLE, 1)), (twists.twisted, TRIANGLE, (0, 2)),
        (twists.origin, TRIANGLE, 3), (twists.shifted, TRIANGLE, (0,), (2,)), (twists.hold_of, TRIANGLE, 1),
        (twists.plan_of, TRIANGLE, 2), (machines.states, PATH, MACHINE, 2),
        (machines.found, [PATH, bare(3)], 1, teller),
        (machines.found, (PATH, OTHER, SIX, TWO), 1, teller), (texts.web_text, PATH),
        (texts.read_web, "places 1\nhues 3\ntie 0 0 0\n"), (tongue.saying_text, SAYING),
        (tongue.read_saying, "many 1 2 (tie 0 0 1)"),
    ]


def wipe(thing):
    """Changes all that a caller can change in what was told."""
    inner = list(thing.values()) if isinstance(thing, dict) else list(thing) if isinstance(thing, (list, tuple)) else []
    for part in inner:
        wipe(part)
    if isinstance(thing, (dict, list)):
        thing.clear()


class Whole(unittest.TestCase):
    def test_no_argument_is_changed_and_equal_calls_give_equal_answers(self):
        due = []
        for function, *given in calls():
            before = copy.deepcopy(given)
            told = function(*given)
            self.assertEqual(given, before)
            due.append(copy.deepcopy(told))
            wipe(told)
        chance = random.Random(151)
        for _ in range(3):
            rows = list(zip(calls(), due))
            chance.shuffle(rows)
            for (function, *given), answer in rows:
                told = function(*given)
                self.assertEqual(told, answer, function)
                self.assertIs(type(told), type(answer))
                wipe(told)

    def test_told_lists_and_dicts_are_new(self):
        for function, *given in calls():
            told = function(*given)
            if isinstance(told, (list, dict)):
                self.assertIsNot(function(*given), told)

    def test_flags_are_flags(self):
        for function, *given in calls():
            if function.__name__.startswith("is_") or function.__name__ in ("alike", "holds"):
                self.assertIs(type(function(*given)), bool)

    def test_methods_of_which_nothing_is_told_return_none(self):
        disk = shelves.Disk()
        shelf = shelves.Shelf(disk, 1)
        game = playing.Game(PATH, OTHER, 1)
        for told in (disk.write("x", None), disk.cut(0), shelf.put("a", PATH, None), shelf.drop("a", None),
                     game.tell((1, 0, 2)), game.take(0, None), game.back()):
            self.assertIsNone(told)

    def test_asking_changes_no_object(self):
        disk = shelves.Disk()
        shelf = shelves.Shelf(disk, 1)
        shelf.put("a", PATH, None)
        shelf.put("b", OTHER, None)
        at = desk.Desk()
        at.tell("twist a b 2 0-1")
        for _ in range(2):
            self.assertEqual((shelf.names(), shelf.kin(PATH), shelf.kinds()), (("a", "b"), ("a", "b"), (("a", "b"),)))
            self.assertEqual(shelf.web("a"), PATH)
            self.assertEqual((at.tell("names"), at.tell("level a b"), at.tell("names")), ("a b", "1", "a b"))
            self.assertEqual(disk.text().count("\n"), 2)

    def test_objects_are_equal_to_nothing_of_another_class(self):
        objects = [PATH, TRIANGLE, Base(1, ()), Web(1, (0,), ()), shelves.Disk(), shelves.Shelf(shelves.Disk(), 1),
                   desk.Desk(), playing.Game(PATH, OTHER, 1), KinError("x")]
        for one in objects:
            for other in [*objects, *wrong_things()]:
                if type(one) is not type(other):
                    self.assertIs(one == other, False)
                    self.assertIs(one != other, True)

    def test_sayings_of_thousands_of_lines(self):
        deepest = sys.getrecursionlimit()
        for saying in long_sayings(9000):
            for call, given in ((sayings.free, (saying,)), (sayings.names, (saying,)), (sayings.depth, (saying,)),
                                (sayings.plain, (saying,)), (sayings.turned, (saying, (1, 0, 2, 3))),
                                (sayings.holds, (PATH, saying, {0: 0, 1: 0, 2: 0, 3: 0})),
                                (sayings.many_that, (PATH, saying, 0, {1: 0, 2: 0, 3: 0})),
                                (partings.is_parting, (PATH, SIX, 3, saying))):
                self.assertIsNone(told_error(call, *given))
            self.assertEqual(told_error(tongue.saying_text, saying)[1], {"most": 20000})
        self.assertEqual(sys.getrecursionlimit(), deepest)

    def test_what_was_told_may_be_passed_on(self):
        text = tongue.saying_text(partings.marks([path(9)], 1, 3))
        self.assertEqual(tongue.saying_text(tongue.read_saying(text)), text)
        self.assertIs(colours.is_closed([SIX, TWO], 2, colours.colouring([SIX, TWO], 2)[1]), True)
        found = bases.bags(TRIANGLE, 2)
        self.assertIs(bases.is_bags(TRIANGLE, bases.width(TRIANGLE), found), True)
        self.assertEqual(twists.twisted(TRIANGLE, twists.origin(TRIANGLE, 5)[1]).many, 6)
        self.assertEqual(machines.states(ring(3), machines.best([ring(3)]), 1)[1][0][0], 1)


if __name__ == "__main__":
    unittest.main()
