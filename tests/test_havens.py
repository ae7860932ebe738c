"""Havens. (0.2 to 0.5, 6.2)"""

import copy
import itertools
import random
import unittest

from levelkin.bases import haven, is_haven, width
from levelkin.errors import NoNumber

from tests.second_bases import has_haven_by_words, is_haven_by_words, lots_by_words, parts_by_words, width_by_words
from tests.some_bases import (
    ALONE, CUBE, KNOWN_WIDTHS, TRIANGLE, all_pairs, chance_bases, ring_base, small_bases, way,
)
from tests.test_bags import NO_WIDTHS
from tests.things import told_error, wrong_things

# Against width 1 in a ring of three: what is left is one part.
OF_TRIANGLE = {
    (): (0, 1, 2), (0,): (1, 2), (1,): (0, 2), (2,): (0, 1), (0, 1): (2,), (0, 2): (1,), (1, 2): (0,),
}


class Haven(unittest.TestCase):
    def check(self, base, against, there):
        before = (base.many, base.ties)
        found = haven(base, against)
        self.assertEqual((base.many, base.ties), before)
        if not there:
            self.assertIsNone(found)
            return
        self.assertIs(type(found), dict)
        self.assertIs(is_haven(base, against, found), True)
        self.assertTrue(is_haven_by_words(base, against, found))
        again = haven(base, against)
        self.assertEqual(again, found)
        self.assertIsNot(again, found)
        found[()] = None
        self.assertEqual(haven(base, against), again)

    def test_bases_of_known_width(self):
        for base, known in KNOWN_WIDTHS:
            for against in range(9):
                self.check(base, against, against < known)

    def test_all_small_bases(self):
        for base in small_bases(4):
            known = width_by_words(base)
            for against in range(9):
                self.check(base, against, against < known)

    def test_bases_by_chance(self):
        for base in chance_bases(25, 5, 8):
            for against in range(9):
                self.check(base, against, against < width(base))

    def test_by_trying_all_parts(self):
        for base in small_bases(4):
            for against in range(5):
                self.assertEqual(haven(base, against) is not None, has_haven_by_words(base, against))

    def test_what_is_told(self):
        self.assertEqual(haven(TRIANGLE, 1), OF_TRIANGLE)
        self.assertIsNone(haven(TRIANGLE, 2))
        self.assertIsNone(haven(ALONE, 0))
        self.assertEqual(haven(way(2), 0), {(): (0, 1), (0,): (1,), (1,): (0,)})

    def test_what_is_no_width(self):
        for thing in [*NO_WIDTHS, *wrong_things()]:
            self.assertEqual(told_error(haven, TRIANGLE, thing), (NoNumber, {}))
            self.assertEqual(told_error(is_haven, TRIANGLE, thing, OF_TRIANGLE), (NoNumber, {}))
            self.assertEqual(told_error(is_haven, TRIANGLE, thing, None), (NoNumber, {}))


class IsHaven(unittest.TestCase):
    def check(self, base, against, thing, due):
        before = copy.deepcopy(thing)
        self.assertIs(is_haven(base, against, thing), due, thing)
        self.assertEqual(thing, before)
        self.assertIs(is_haven_by_words(base, against, thing), due)

    def test_right_ones(self):
        self.check(TRIANGLE, 1, OF_TRIANGLE, True)
        self.check(TRIANGLE, 1, dict(reversed(OF_TRIANGLE.items())), True)
        self.check(TRIANGLE, 0, {lot: OF_TRIANGLE[lot] for lot in OF_TRIANGLE if len(lot) < 2}, True)

    def test_a_lot_that_lacks_and_one_more(self):
        for lot in OF_TRIANGLE:
            self.check(TRIANGLE, 1, {key: OF_TRIANGLE[key] for key in OF_TRIANGLE if key != lot}, False)
        self.check(TRIANGLE, 1, {**OF_TRIANGLE, (0, 1, 2): ()}, False)
        self.check(TRIANGLE, 1, {**OF_TRIANGLE, (0, 1, 2): (0,)}, False)
        self.check(TRIANGLE, 1, {**OF_TRIANGLE, (1, 0): (2,)}, False)
        self.check(TRIANGLE, 1, {**OF_TRIANGLE, (0, 0): (1, 2)}, False)
        self.check(TRIANGLE, 0, OF_TRIANGLE, False)
        self.check(TRIANGLE, 2, OF_TRIANGLE, False)
        self.check(TRIANGLE, 2, {**OF_TRIANGLE, (0, 1, 2): ()}, False)
        for key in (None, 0, "", "01", -1, ((0, 1),), (3,), (-1,), ("0",), (None,), (0, (1,)), b""):
            self.check(TRIANGLE, 1, {**OF_TRIANGLE, key: (0,)}, False)
            rest = {lot: OF_TRIANGLE[lot] for lot in OF_TRIANGLE if lot != (0,)}
            self.check(TRIANGLE, 1, {**rest, key: (1, 2)}, False)

    def test_parts_that_are_none(self):
        for lot, part in OF_TRIANGLE.items():
            for thing in [(), (3,), lot, (*part, 3), (-1, *part), part[:-1], list(part), part[::-1] + part, (part,),
                          tuple(str(place) for place in part), (*part, part[-1]), tuple(range(3)), None]:
                if thing != part:
                    self.check(TRIANGLE, 1, {**OF_TRIANGLE, lot: thing}, False)
        self.check(TRIANGLE, 1, {**OF_TRIANGLE, (0,): (2, 1)}, False)
        self.check(TRIANGLE, 1, {**OF_TRIANGLE, (0, 2): (True,)}, False)
        self.check(TRIANGLE, 1, {**OF_TRIANGLE, (1, 2): (False,)}, False)
        self.check(TRIANGLE, 1, {**OF_TRIANGLE, (0,): (True, 2)}, False)
        for thing in wrong_things():
            self.assertIs(is_haven(TRIANGLE, 1, {**OF_TRIANGLE, (0,): thing}), False)
            self.assertIs(is_haven(TRIANGLE, 1, {**OF_TRIANGLE, (): thing}), False)

    def test_parts_put_together_and_parts_that_a_tie_joins(self):
        base = way(3)
        right = {(): (0, 1, 2), (0,): (1, 2), (1,): (0,), (2,): (0, 1)}
        self.check(base, 0, right, True)
        self.check(base, 0, {**right, (1,): (2,)}, True)
        # Two parts in one.
        self.check(base, 0, {**right, (1,): (0, 2)}, False)
        # A part that a tie joins with others left.
        self.check(base, 0, {**right, (0,): (1,)}, False)
        self.check(base, 0, {**right, (0,): (2,)}, False)
        self.check(base, 0, {**right, (): (0, 1)}, False)

    def test_parts_that_do_not_lie_within_one_another(self):
        # Two rings of three at one place: what is left without it falls apart.
        base = type(TRIANGLE)(5, ((0, 1), (0, 2), (0, 3), (0, 4), (1, 2), (3, 4)))
        found = haven(base, 1)
        self.check(base, 1, found, True)
        for lot in found:
            for part in parts_by_words(base, lot):
                thing = {**found, lot: part}
                self.check(base, 1, thing, is_haven_by_words(base, 1, thing))
        # The one ring for a lot alone, the other one for all others.
        one = {lot: [part for part in parts_by_words(base, lot) if set(part) & {1, 2}][0] for lot in found
               if not {1, 2} <= set(lot)}
        one[1, 2] = (0, 3, 4)
        self.check(base, 1, one, is_haven_by_words(base, 1, one))
        self.check(base, 1, {**one, (0,): (3, 4)}, False)

    def test_wrong_things(self):
        for thing in [*wrong_things(), list(OF_TRIANGLE.items()), tuple(OF_TRIANGLE.items()), list(OF_TRIANGLE),
                      (OF_TRIANGLE,), [OF_TRIANGLE], OF_TRIANGLE.items(), {}]:
            for against in (0, 1, 2, 8):
                self.assertIs(is_haven(TRIANGLE, against, thing), False)
                self.assertIs(is_haven(ALONE, against, thing), False)

    def test_a_place_alone_has_none(self):
        for thing in ({(): (0,)}, {(): (0,), (0,): ()}, {(): (0,), (0,): (0,)}, {(): (), (0,): ()}):
            self.check(ALONE, 0, thing, False)

    def test_changed_havens_by_words(self):
        chance = random.Random(83)
        judged = {True: 0, False: 0}
        for base in [*chance_bases(60, 3, 7), CUBE, all_pairs(5), ring_base(8)]:
            against = chance.randrange(width(base))
            found = haven(base, against)
            for _ in range(12):
                thing = dict(found)
                for _ in range(chance.randrange(1, 3)):
                    lot = chance.choice(list(found))
                    if chance.randrange(3):
                        thing[lot] = chance.choice(parts_by_words(base, lot))
                    else:
                        thing[lot] = tuple(sorted(set(thing[lot]) ^ {chance.randrange(base.many)}))
                due = is_haven_by_words(base, against, thing)
                judged[due] += 1
                self.check(base, against, thing, due)
        self.assertGreater(min(judged.values()), 100)

    def test_all_parts_for_small_bases_by_words(self):
        judged = {True: 0, False: 0}
        for base in small_bases(4):
            for against in range(2):
                lots = lots_by_words(base.many, against + 1)
                choices = [parts_by_words(base, lot) or [()] for lot in lots]
                for parts in itertools.islice(itertools.product(*choices), 40):
                    thing = dict(zip(lots, parts))
                    due = is_haven_by_words(base, against, thing)
                    judged[due] += 1
                    self.check(base, against, thing, due)
        self.assertGreater(min(judged.values()), 20)


if __name__ == "__main__":
    unittest.main()
