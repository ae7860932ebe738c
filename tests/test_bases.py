"""Bases. (0.2 to 0.5, 6.1)"""

import copy
import itertools
import unittest

from levelkin.bases import Base
from levelkin.errors import BadBase
from levelkin.webs import Web

from tests.some_bases import CUBE, OCTAHEDRON_4, all_pairs, small_bases, star, way
from tests.things import told_error, wrong_things


def bad(part):
    return BadBase, {"part": part}


class Bases(unittest.TestCase):
    def test_attributes(self):
        base = Base(3, ((0, 1), (1, 2)))
        self.assertEqual((base.many, base.ties), (3, ((0, 1), (1, 2))))
        self.assertEqual((Base(1, ()).many, Base(1, ()).ties), (1, ()))
        self.assertEqual((CUBE.many, len(CUBE.ties)), (8, 12))

    def test_equal_if_both_attributes_are(self):
        self.assertTrue(Base(3, ((0, 1), (1, 2))) == Base(3, ((0, 1), (1, 2))))
        self.assertFalse(Base(3, ((0, 1), (1, 2))) != Base(3, ((0, 1), (1, 2))))
        for one, other in itertools.combinations(small_bases(4), 2):
            self.assertFalse(one == other)
            self.assertTrue(one != other)

    def test_equal_to_nothing_of_another_class(self):
        base = Base(1, ())
        for thing in [*wrong_things(), (1, ()), 1, Web(1, (0,), ()), Web(1, (1,), ())]:
            if not isinstance(thing, Base):
                self.assertIs(base == thing, False)
                self.assertIs(thing == base, False)
                self.assertIs(base != thing, True)

    def test_numbers_of_places(self):
        for many in (0, 9, -1, 40, 10 ** 29, True, False, None, "1", (1,), [1], *wrong_things()):
            for ties in ((), None, ((0, 1),), ((1, 0),)):
                self.assertEqual(told_error(Base, many, ties), bad("many"))
        for many in range(1, 9):
            self.assertEqual(Base(many, way(many).ties).many, many)

    def test_ties_that_are_no_tuple(self):
        for thing in wrong_things():
            if not isinstance(thing, tuple):
                self.assertEqual(told_error(Base, 2, thing), bad("ties"))
        for thing in ([(0, 1)], {(0, 1): 0}, {0: (0, 1)}, "01", range(2)):
            self.assertEqual(told_error(Base, 2, thing), bad("ties"))

    def test_what_is_no_tie(self):
        for tie in [*wrong_things(), (0, 0), (1, 1), (1, 0), (2, 1), (0, 3), (3, 4), (-1, 0), (-2, -1), (0, 1, 2), (0,),
                    [0, 1], (False, 1), (0, True), (False, True), ("0", "1"), (0, None), ((0,), (1,)), (0, 10 ** 29)]:
            self.assertEqual(told_error(Base, 3, (tie,)), bad(0), tie)
            self.assertEqual(told_error(Base, 3, (tie, (0, 1), (1, 2))), bad(0), tie)
            self.assertEqual(told_error(Base, 3, ((0, 1), tie)), bad(1), tie)
            self.assertEqual(told_error(Base, 3, ((0, 1), (0, 2), tie, None)), bad(2), tie)

    def test_ties_that_do_not_ascend(self):
        self.assertEqual(told_error(Base, 3, ((0, 1), (0, 1))), bad(1))
        self.assertEqual(told_error(Base, 3, ((1, 2), (0, 1))), bad(1))
        self.assertEqual(told_error(Base, 3, ((0, 2), (0, 1), (1, 2))), bad(1))
        self.assertEqual(told_error(Base, 3, ((0, 1), (1, 2), (0, 2))), bad(2))
        self.assertEqual(told_error(Base, 3, ((0, 1), (1, 2), (1, 2))), bad(2))
        for base in small_bases(4):
            for ties in itertools.permutations(base.ties):
                if ties != base.ties:
                    at = [later > ahead for ahead, later in zip(ties, ties[1:])].index(False) + 1
                    self.assertEqual(told_error(Base, base.many, ties), bad(at))

    def test_places_that_do_not_hang_all_together(self):
        for many in range(2, 9):
            self.assertEqual(told_error(Base, many, ()), bad("ties"))
        self.assertEqual(told_error(Base, 3, ((0, 1),)), bad("ties"))
        self.assertEqual(told_error(Base, 3, ((1, 2),)), bad("ties"))
        self.assertEqual(told_error(Base, 4, ((0, 1), (2, 3))), bad("ties"))
        self.assertEqual(told_error(Base, 4, ((0, 2), (1, 3))), bad("ties"))
        self.assertEqual(told_error(Base, 6, ((0, 1), (0, 2), (1, 2), (3, 4), (3, 5), (4, 5))), bad("ties"))
        self.assertEqual(told_error(Base, 8, tuple(itertools.combinations(range(7), 2))), bad("ties"))
        # Each place is behind all that lead to it.
        self.assertEqual(Base(4, ((0, 3), (1, 2), (1, 3))).ties, ((0, 3), (1, 2), (1, 3)))
        self.assertEqual(Base(5, ((0, 4), (1, 3), (2, 3), (2, 4))).many, 5)

    def test_just_those_that_hang_together_are_let(self):
        pairs = list(itertools.combinations(range(4), 2))
        there = [base.ties for base in small_bases(4) if base.many == 4]
        for size in range(len(pairs) + 1):
            for ties in itertools.combinations(pairs, size):
                self.assertEqual(told_error(Base, 4, ties), None if ties in there else bad("ties"))

    def test_six_ties_at_a_place_and_seven(self):
        self.assertEqual(len(star(7).ties), 6)
        self.assertEqual(len(all_pairs(7).ties), 21)
        self.assertEqual(len(OCTAHEDRON_4.ties), 24)
        self.assertEqual(told_error(Base, 8, tuple((0, p) for p in range(1, 8))), bad("ties"))
        self.assertEqual(told_error(Base, 8, tuple((p, 7) for p in range(7))), bad("ties"))
        self.assertEqual(told_error(Base, 8, tuple(itertools.combinations(range(8), 2))), bad("ties"))
        self.assertEqual(Base(8, ((0, 1), *((p, 7) for p in range(1, 7)))).many, 8)

    def test_two_parts_wrong_at_once(self):
        self.assertEqual(told_error(Base, 9, [(0, 1)]), bad("many"))
        self.assertEqual(told_error(Base, True, [(0, 1)]), bad("many"))
        self.assertEqual(told_error(Base, 3, ((0, 1), (0, 0), (0, 9))), bad(1))
        self.assertEqual(told_error(Base, 4, ((0, 1), (0, 1))), bad(1))
        self.assertEqual(told_error(Base, 8, (*((0, p) for p in range(1, 8)), (0, 1))), bad(7))
        self.assertEqual(told_error(Base, 4, ((0, 1), (1, 0), (0, 1))), bad(1))
        self.assertEqual(told_error(Base, 3, ((0, 1), (0, 1), None)), bad(1))

    def test_many_ties(self):
        self.assertEqual(told_error(Base, 8, ((0, 1),) * 40000), bad(1))
        self.assertEqual(told_error(Base, 2, ((0, 1), *[None] * 99000)), bad(1))

    def test_arguments_are_not_changed(self):
        for ties in (((0, 1), (1, 2)), ([0, 1],), ((1, 0),), ((0, 1), [1, {}])):
            before = copy.deepcopy(ties)
            told_error(Base, 3, ties)
            self.assertEqual(ties, before)


if __name__ == "__main__":
    unittest.main()
