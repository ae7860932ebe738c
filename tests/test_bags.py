"""Bags, their widths, and the sixth fact. (0.2 to 0.5, 6.2)"""

import copy
import itertools
import random
import unittest

from levelkin.bases import Base, bags, haven, is_bags, width
from levelkin.errors import NoNumber

from tests.second_bases import has_bags_by_words, is_bags_by_words, width_by_words
from tests.some_bases import ALONE, CUBE, KNOWN_WIDTHS, TRIANGLE, all_pairs, chance_bases, ring_base, small_bases, way
from tests.things import told_error, wrong_things

NO_WIDTHS = [-1, 9, 10, -10 ** 29, 10 ** 29, True, False, None, "2", (2,), [2], [], {}, {2: 2}]
# Ties 0-1, 1-2, 2-3: three bags one behind another.
WAY = way(4)
OF_WAY = (((0, 1), (1, 2), (2, 3)), ((0, 1), (1, 2)))


class Bags(unittest.TestCase):
    def check(self, base, most, there):
        before = (base.many, base.ties)
        found = bags(base, most)
        self.assertEqual((base.many, base.ties), before)
        self.assertEqual(bags(base, most), found)
        if not there:
            self.assertIsNone(found)
            return
        self.assertIs(is_bags(base, most, found), True)
        self.assertTrue(is_bags_by_words(base, most, found))

    def test_bases_of_known_width(self):
        for base, known in KNOWN_WIDTHS:
            self.assertEqual(width(base), known)
            for most in range(9):
                self.check(base, most, most >= known)

    def test_all_small_bases(self):
        for base in small_bases(4):
            known = width_by_words(base)
            self.assertEqual(width(base), known)
            for most in range(9):
                self.check(base, most, most >= known)

    def test_bases_by_chance(self):
        for base in chance_bases(25, 5, 6):
            known = width_by_words(base)
            self.assertEqual(width(base), known)
            for most in range(9):
                self.check(base, most, most >= known)

    def test_by_trying_all_bags(self):
        for base in small_bases(3):
            for most in range(3):
                self.assertEqual(bags(base, most) is not None, has_bags_by_words(base, most))
        for base in (ring_base(4), WAY):
            self.assertEqual(bags(base, 1) is not None, has_bags_by_words(base, 1))

    def test_just_one_of_bags_and_a_haven_is_there(self):
        for base in [*small_bases(4), *chance_bases(60, 5, 8)]:
            for most in range(9):
                self.assertNotEqual(bags(base, most) is None, haven(base, most) is None)
                self.assertEqual(bags(base, most) is None, most < width(base))

    def test_a_place_alone(self):
        self.assertEqual(bags(ALONE, 0), (((0,),), ()))
        self.assertEqual(width(ALONE), 0)

    def test_what_is_no_width(self):
        for thing in [*NO_WIDTHS, *wrong_things()]:
            if thing == 0 and type(thing) is int:
                continue
            self.assertEqual(told_error(bags, WAY, thing), (NoNumber, {}))
            self.assertEqual(told_error(is_bags, WAY, thing, OF_WAY), (NoNumber, {}))
            self.assertEqual(told_error(is_bags, WAY, thing, None), (NoNumber, {}))


class IsBags(unittest.TestCase):
    def check(self, base, most, thing, due):
        before = copy.deepcopy(thing)
        self.assertIs(is_bags(base, most, thing), due, thing)
        self.assertEqual(thing, before)
        self.assertIs(is_bags_by_words(base, most, thing), due)

    def test_right_ones(self):
        self.check(WAY, 1, OF_WAY, True)
        self.check(WAY, 8, OF_WAY, True)
        self.check(WAY, 3, (((0, 1, 2, 3),), ()), True)
        self.check(ALONE, 0, (((0,),), ()), True)
        self.check(TRIANGLE, 2, (((0, 1, 2),), ()), True)
        self.check(ring_base(4), 2, (((0, 1, 2), (0, 2, 3)), ((0, 1),)), True)
        # Bags may stand in any order, come twice, lie within one another, and be empty.
        self.check(WAY, 1, (((1, 2), (2, 3), (0, 1)), ((0, 1), (0, 2))), True)
        self.check(WAY, 1, (((0, 1), (0, 1), (1, 2), (2, 3)), ((0, 1), (1, 2), (2, 3))), True)
        self.check(WAY, 1, (((0, 1), (1,), (1, 2), (2, 3)), ((0, 1), (1, 2), (2, 3))), True)
        self.check(WAY, 1, (((0, 1), (1, 2), (2, 3), ()), ((0, 1), (1, 2), (2, 3))), True)
        self.check(WAY, 1, (((0, 1), (), (1, 2), (2, 3)), ((0, 2), (1, 2), (2, 3))), True)
        self.check(ALONE, 0, (((0,), ()), ((0, 1),)), True)
        self.check(ALONE, 0, (((0,), (0,)), ((0, 1),)), True)

    def test_a_width_that_is_too_great(self):
        self.check(WAY, 0, OF_WAY, False)
        self.check(WAY, 2, (((0, 1, 2, 3),), ()), False)
        self.check(TRIANGLE, 1, (((0, 1, 2),), ()), False)
        self.check(TRIANGLE, 1, (((0, 1), (1, 2), (0, 2)), ((0, 1), (1, 2))), False)
        self.check(WAY, 1, (((0, 1), (1, 2), (1, 2, 3)), ((0, 1), (1, 2))), False)

    def test_a_place_that_lacks_and_a_tie_that_is_apart(self):
        self.check(WAY, 1, (((0, 1), (1, 2)), ((0, 1),)), False)
        self.check(WAY, 1, (((0, 1), (1, 2), (3,)), ((0, 1), (1, 2))), False)
        self.check(WAY, 1, (((0,), (1, 2), (2, 3)), ((0, 1), (1, 2))), False)
        self.check(ring_base(4), 2, (((0, 1, 2), (2, 3)), ((0, 1),)), False)
        self.check(ALONE, 0, (((),), ()), False)
        self.check(ALONE, 8, (((), ()), ((0, 1),)), False)

    def test_links(self):
        lots = OF_WAY[0]
        for links in [((0, 1),), (), ((0, 1), (0, 1)), ((1, 2), (0, 1)), ((0, 1), (0, 2), (1, 2)), ((0, 1), (2, 1)),
                      ((1, 0), (1, 2)), ((0, 0), (1, 2)), ((0, 1), (1, 3)), ((-1, 0), (0, 1)), ((0, 1), (1, 2), (2, 3)),
                      [(0, 1), (1, 2)], ((0, 1), [1, 2]), ([0, 1], (1, 2)), ((0, 1), (1, 2, 2)), ((0, 1), (1,)),
                      ((False, 1), (1, 2)), ((0, True), (1, 2)), ((0, 1), None), (0, 1), "01", None, {(0, 1): (1, 2)},
                      ((0, 1), (1, 10 ** 29)), ((0, "1"), (1, 2)), ((0, None), (1, 2))]:
            self.check(WAY, 1, (lots, links), False)
        self.check(WAY, 1, (lots, ((0, 1), (1, 2))), True)
        # Bag 1 stands at the end, so that the bags of place 1, or of place 2, do not hang together.
        self.check(WAY, 1, (lots, ((0, 2), (1, 2))), False)
        self.check(WAY, 1, (lots, ((0, 1), (0, 2))), False)

    def test_links_that_do_not_hang_together(self):
        lots = ((0, 1), (1, 2), (2, 3), (2, 3), (2, 3))
        self.check(WAY, 1, (lots, ((0, 1), (1, 2), (2, 3), (3, 4))), True)
        # A ring, and a bag apart from it.
        self.check(WAY, 1, (lots, ((0, 1), (2, 3), (2, 4), (3, 4))), False)
        self.check(WAY, 3, (((0, 1, 2, 3),) * 4, ((0, 1), (0, 2), (1, 2))), False)
        self.check(WAY, 3, (((0, 1, 2, 3),) * 4, ((1, 2), (1, 3), (2, 3))), False)
        self.check(WAY, 3, (((0, 1, 2, 3), (), (), ()), ((1, 2), (1, 3), (2, 3))), False)

    def test_a_place_whose_bags_do_not_hang_together(self):
        self.check(ring_base(3), 2, (((0, 1, 2), (1, 2), (0,)), ((0, 1), (1, 2))), False)
        self.check(WAY, 1, (((0, 1), (), (1, 2), (2, 3)), ((0, 1), (1, 2), (2, 3))), False)
        self.check(ring_base(4), 1, (((0, 1), (1, 2), (2, 3), (0, 3)), ((0, 1), (1, 2), (2, 3))), False)
        self.check(WAY, 3, (((0, 1, 2, 3), (), (3,)), ((0, 1), (1, 2))), False)
        self.check(WAY, 3, (((0, 1, 2, 3), (3,), ()), ((0, 1), (1, 2))), True)

    def test_what_is_no_lot_of_places(self):
        for lot in [*wrong_things(), [0, 1], (1, 0), (0, 0, 1), (0, 4), (-1, 0), (0, 1, 4), (False, 1), (0, True),
                    ("0", "1"), (0, None), ((0,), (1,)), {0: 1, 1: 0}, range(2), "01", b"\x00\x01"]:
            if lot == () or lot == (0,):
                continue
            self.assertIs(is_bags(WAY, 8, ((lot, (1, 2), (2, 3)), ((0, 1), (1, 2)))), False)
            self.assertIs(is_bags(WAY, 8, (((0, 1, 2, 3), lot), ((0, 1),))), False)

    def test_wrong_things(self):
        for thing in [*wrong_things(), list(OF_WAY), [OF_WAY], (OF_WAY,), (*OF_WAY, ()), (list(OF_WAY[0]), OF_WAY[1]),
                      (OF_WAY[0], list(OF_WAY[1])), {OF_WAY[0]: OF_WAY[1]}, ((), ()), OF_WAY[0], (OF_WAY[0],),
                      OF_WAY[::-1],
                      (((0, 1, 2, 3),), None), (((0, 1, 2, 3),), []), (((0, 1, 2, 3),), {}), (((0, 1, 2, 3),), "")]:
            self.assertIs(is_bags(WAY, 8, thing), False)

    def test_many_bags(self):
        many = 20000
        lots = ((0, 1), (1, 2), (2, 3), *[(3,)] * (many - 3))
        links = tuple((p, p + 1) for p in range(many - 1))
        self.assertIs(is_bags(WAY, 1, (lots, links)), True)
        self.assertIs(is_bags(WAY, 1, ((*lots[:-1], (2,)), links)), False)
        self.assertIs(is_bags(WAY, 1, (lots, (*links[:-1], (0, many - 1)))), False)
        self.assertIs(is_bags(WAY, 1, (lots, links[:-1])), False)

    def test_changed_bags_by_words(self):
        chance = random.Random(81)
        judged = {True: 0, False: 0}
        for base in [*chance_bases(60, 2, 8), CUBE, all_pairs(5)]:
            most = min(8, width(base) + chance.randrange(2))
            for _ in range(12):
                lots, links = [list(part) for part in bags(base, most)]
                at = chance.randrange(len(lots))
                change = chance.randrange(6)
                if change == 0:
                    lots[at] = tuple(sorted(chance.sample(range(base.many), chance.randrange(base.many + 1))))
                elif change == 1:
                    lots.append(lots[at])
                    links.append((at, len(lots) - 1))
                    links.sort()
                elif change == 2 and links:
                    links[chance.randrange(len(links))] = tuple(sorted(chance.sample(range(len(lots)), 2)))
                    links.sort()
                elif change == 3:
                    place = chance.randrange(base.many)
                    lots[at] = tuple(sorted(set(lots[at]) ^ {place}))
                elif change == 4 and links:
                    links.pop(chance.randrange(len(links)))
                else:
                    lots.append(tuple(sorted(chance.sample(lots[at], chance.randrange(len(lots[at]) + 1)))))
                    links.append((at, len(lots) - 1))
                    links.sort()
                thing = (tuple(lots), tuple(links))
                due = is_bags_by_words(base, most, thing)
                judged[due] += 1
                self.check(base, most, thing, due)
        self.assertGreater(min(judged.values()), 150)

    def test_all_things_for_small_bases_by_words(self):
        for base in (way(2), way(3), TRIANGLE):
            lots = [lot for size in range(base.many + 1) for lot in itertools.combinations(range(base.many), size)]
            for many in (1, 2, 3):
                pairs = list(itertools.combinations(range(many), 2))
                trees = list(itertools.combinations(pairs, many - 1))
                for chosen in itertools.product(lots[::1 if many < 3 else 2], repeat=many):
                    for links in trees:
                        for most in (1, 2):
                            due = is_bags_by_words(base, most, (chosen, links))
                            self.assertIs(is_bags(base, most, (chosen, links)), due)


class Width(unittest.TestCase):
    def test_is_told_again_alike(self):
        base = Base(4, ((0, 1), (0, 2), (0, 3), (1, 2)))
        self.assertEqual([width(base), width(base)], [2, 2])
        self.assertEqual(width(TRIANGLE), 2)

    def test_named_otherwise(self):
        chance = random.Random(82)
        for base in chance_bases(40, 4, 8):
            order = list(range(base.many))
            chance.shuffle(order)
            ties = tuple(sorted(tuple(sorted([order[a], order[b]])) for a, b in base.ties))
            self.assertEqual(width(Base(base.many, ties)), width(base))


if __name__ == "__main__":
    unittest.main()
