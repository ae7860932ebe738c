"""A shelf that keeps webs on a disk, and the ninth fact. (0.2 to 0.5, 9.2)"""

import itertools
import random
import unittest

from levelkin.colours import alike
from levelkin.errors import Fallen, NoLevel, NoName, NoNumber, NoWeb, TooMany
from levelkin.shelves import Disk, Shelf
from levelkin.texts import web_text
from levelkin.webs import Web, beside, renamed

from tests.second_shelves import kept_by_words, line_by_words
from tests.test_colours import NO_LEVELS
from tests.test_disks import NO_NUMBERS, ONE, written
from tests.test_portraits import ROOK, SIX, TORUS, TWO
from tests.things import PATH, bare, path, ring, small_webs, told_error, wrong_things

FULL = (TooMany, {"most": 10000})
FALLEN = (Fallen, {})
NO_WORDS = [
    "", "abcdefghi", "A", "aB", "a1", "1", "a b", " a", "a ", "a\n", "a-b", "a|", "~", None, 0, True, ("a",), ["a"],
    {"a": 0}, b"a", (),
]


def shelf_of(level, **webs):
    shelf = Shelf(Disk(), level)
    for name, web in webs.items():
        shelf.put(name, web, None)
    return shelf


class Shelves(unittest.TestCase):
    def check(self, shelf, disk, kept):
        self.assertEqual(shelf.names(), tuple(sorted(kept)))
        for name, web in kept.items():
            self.assertEqual(shelf.web(name), web)
        self.assertEqual(kept_by_words(disk.text()), (kept, disk.text()))

    def test_puts_and_drops(self):
        disk = Disk()
        shelf = Shelf(disk, 1)
        self.check(shelf, disk, {})
        self.assertIsNone(shelf.put("b", ONE, None))
        self.check(shelf, disk, {"b": ONE})
        self.assertEqual(disk.text(), line_by_words("put", "b", "places 1|hues 3|") + "\n")
        self.assertIsNone(shelf.put("a", PATH, 10 ** 29))
        self.check(shelf, disk, {"a": PATH, "b": ONE})
        # A name put again.
        shelf.put("b", ring(3), None)
        self.check(shelf, disk, {"a": PATH, "b": ring(3)})
        self.assertIsNone(shelf.drop("a", None))
        self.check(shelf, disk, {"b": ring(3)})
        self.assertEqual(told_error(shelf.drop, "a", None), (NoName, {}))
        shelf.put("a", ONE, None)
        shelf.drop("b", 10 ** 29)
        self.check(shelf, disk, {"a": ONE})
        self.assertEqual(disk.text().count("\n"), 6)

    def test_a_new_shelf_has_what_the_elder_had(self):
        chance = random.Random(131)
        disk, kept = Disk(), {}
        shelf = Shelf(disk, 2)
        for turn in range(60):
            name = chance.choice(["a", "b", "cc", "put", "abcdefgh"])
            if name in kept and chance.randrange(2):
                shelf.drop(name, None)
                del kept[name]
            else:
                kept[name] = chance.choice(small_webs(20, 5))
                shelf.put(name, kept[name], None)
            self.check(shelf, disk, kept)
            if chance.randrange(3) == 0:
                disk = disk.copy()
                shelf = Shelf(disk, chance.randrange(1, 4))
                self.check(shelf, disk, kept)

    def test_what_stands_behind_is_cut_off(self):
        good = line_by_words("put", "a", "places 1|hues 3|") + "\n"
        disk = written(good + "drop a 1")
        shelf = Shelf(disk, 1)
        self.assertEqual(disk.text(), good)
        shelf.put("b", PATH, None)
        self.check(shelf, disk, {"a": ONE, "b": PATH})
        self.assertEqual(Shelf(disk, 1).names(), ("a", "b"))

    def test_wrong_levels(self):
        for level in [*NO_LEVELS, *wrong_things()]:
            disk = written("what does not count")
            self.assertEqual(told_error(Shelf, disk, level), (NoLevel, {}))
            self.assertEqual(disk.text(), "what does not count")

    def test_wrong_puts(self):
        disk = Disk()
        shelf = Shelf(disk, 1)
        shelf.put("a", ONE, None)
        before = disk.text()
        for name in [*NO_WORDS, *wrong_things()]:
            if name == "web":
                continue
            for web, most in ((PATH, None), (None, -1), (PATH, True)):
                self.assertEqual(told_error(shelf.put, name, web, most), (NoName, {}))
        for web in [*wrong_things(), web_text(PATH), (3, (0, 0, 0), ()), [PATH]]:
            if not isinstance(web, Web):
                for most in (None, 3, -1, True):
                    self.assertEqual(told_error(shelf.put, "b", web, most), (NoWeb, {}))
        for most in NO_NUMBERS:
            self.assertEqual(told_error(shelf.put, "b", PATH, most), (NoNumber, {}))
            self.assertEqual(told_error(shelf.drop, "a", most), (NoNumber, {}))
        self.assertEqual(disk.text(), before)
        self.check(shelf, disk, {"a": ONE})

    def test_wrong_drops_and_webs(self):
        shelf = shelf_of(1, a=ONE)
        for name in [*NO_WORDS, *wrong_things(), "b", "aa"]:
            for most in (None, 0, -1, "x"):
                self.assertEqual(told_error(shelf.drop, name, most), (NoName, {}))
            self.assertEqual(told_error(shelf.web, name), (NoName, {}))
        self.assertEqual(shelf.names(), ("a",))

    def test_equal_to_nothing_of_another_class(self):
        shelf = shelf_of(1, a=ONE)
        for thing in [*wrong_things(), Disk(), ("a",)]:
            self.assertIs(shelf == thing, False)
            self.assertIs(thing == shelf, False)


class Falls(unittest.TestCase):
    def check_fallen(self, shelf, names):
        self.assertEqual(shelf.names(), names)
        for name, web, most in (("a", PATH, None), (None, None, -1), ("", PATH, 0)):
            self.assertEqual(told_error(shelf.put, name, web, most), FALLEN)
            self.assertEqual(told_error(shelf.drop, name, most), FALLEN)
            self.assertEqual(told_error(shelf.web, name), FALLEN)
        self.assertEqual(told_error(shelf.kin, PATH), FALLEN)
        self.assertEqual(told_error(shelf.kin, bare(40)), FALLEN)
        self.assertEqual(told_error(shelf.kinds), FALLEN)
        self.assertEqual(shelf.names(), names)

    def test_a_write_cut_behind_every_sign(self):
        start = written("")
        Shelf(start, 1).put("a", ONE, None)
        Shelf(start, 1).put("b", PATH, None)
        ahead = {"a": ONE, "b": PATH}
        writes = (
            ("put", ("c", ring(3)), {**ahead, "c": ring(3)}), ("put", ("a", PATH), {"a": PATH, "b": PATH}),
            ("drop", ("a",), {"b": PATH}), ("put", ("b", PATH), ahead), ("drop", ("b",), {"a": ONE}),
        )
        for what, given, behind in writes:
            whole = start.copy()
            getattr(Shelf(whole, 1), what)(*given, None)
            line = whole.text()[len(start.text()):]
            self.assertEqual(kept_by_words(whole.text()), (behind, whole.text()))
            for most in range(len(line) + 3):
                disk = start.copy()
                shelf = Shelf(disk, 1)
                self.assertIsNone(getattr(shelf, what)(*given, most))
                self.assertEqual(disk.text(), start.text() + line[:most])
                is_whole = most >= len(line)
                if is_whole:
                    self.assertEqual(shelf.names(), tuple(sorted(behind)))
                    self.assertEqual(shelf.web("b") if "b" in behind else None, behind.get("b"))
                else:
                    self.check_fallen(shelf, ("a", "b"))
                again = Shelf(disk, 1)
                now = behind if is_whole else ahead
                self.assertEqual({name: again.web(name) for name in again.names()}, now)
                self.assertEqual(disk.text(), whole.text() if is_whole else start.text())
                # The new shelf goes on.
                again.put("z", ONE, None)
                self.assertEqual(Shelf(disk, 1).names(), tuple(sorted([*now, "z"])))

    def test_a_disk_that_is_cut_behind_every_sign(self):
        disk = Disk()
        shelf = Shelf(disk, 1)
        states = {0: {}}
        for what, given in (("put", ("a", ONE)), ("put", ("b", PATH)), ("drop", ("a",)), ("put", ("b", ring(3)))):
            getattr(shelf, what)(*given, None)
            states[len(disk.text())] = {name: shelf.web(name) for name in shelf.names()}
        for many in range(len(disk.text()) + 1):
            other = disk.copy()
            other.cut(many)
            again = Shelf(other, 1)
            due = states[max(size for size in states if size <= many)]
            self.assertEqual({name: again.web(name) for name in again.names()}, due)

    def test_errors_do_not_let_it_fall(self):
        shelf = shelf_of(1, a=ONE)
        for call, given in ((shelf.put, ("", PATH, 3)), (shelf.put, ("b", None, 3)), (shelf.put, ("b", PATH, -3)),
                            (shelf.drop, ("b", 3)), (shelf.drop, ("a", True))):
            self.assertIsNotNone(told_error(call, *given))
            self.assertEqual(shelf.web("a"), ONE)
        shelf.drop("a", 0)
        self.check_fallen(shelf, ("a",))


class Kinds(unittest.TestCase):
    def check(self, level, **webs):
        shelf = shelf_of(level, **webs)
        kinds = shelf.kinds()
        self.assertEqual(sorted(name for kind in kinds for name in kind), sorted(webs))
        self.assertEqual(kinds, tuple(sorted(tuple(sorted(kind)) for kind in kinds)))
        self.assertTrue(all(type(kind) is tuple for kind in (kinds, *kinds)))
        for one, other in itertools.product(webs, repeat=2):
            together = any(one in kind and other in kind for kind in kinds)
            self.assertIs(together, alike(webs[one], webs[other], level))
        for web in [*webs.values(), PATH, bare(1)]:
            due = tuple(sorted(name for name in webs if alike(webs[name], web, level)))
            self.assertEqual(shelf.kin(web), due)
        return kinds

    def test_webs_at_each_level(self):
        for level in (1, 2, 3):
            self.assertEqual(self.check(level), ())
            self.assertEqual(self.check(level, x=PATH), (("x",),))
            self.assertEqual(self.check(level, b=PATH, a=renamed(PATH, (1, 0, 2)), c=ring(3)), (("a", "b"), ("c",)))
            self.assertEqual(self.check(level, c=PATH, b=bare(3), a=PATH, d=bare(3)), (("a", "c"), ("b", "d")))
            names = ["ab", "a", "b", "ba", "c", "abc", "z", "y"]
            self.check(level, **dict(zip(names, small_webs(8, 4))))
        self.assertEqual(self.check(1, six=SIX, two=TWO), (("six", "two"),))
        self.assertEqual(self.check(2, six=SIX, two=TWO), (("six",), ("two",)))
        self.assertEqual(self.check(1, a=ring(8), b=beside(ring(3), ring(5)), c=path(8)), (("a", "b"), ("c",)))
        self.assertEqual(self.check(2, r=ROOK, t=TORUS), (("r", "t"),))

    def test_no_webs(self):
        for level in (1, 2, 3):
            shelf = shelf_of(level)
            self.assertEqual((shelf.names(), shelf.kinds(), shelf.kin(bare(40))), ((), (), ()))

    def test_more_than_10000_rows_together(self):
        # Of level 3 17 places have 5220 rows, 16 have 4369, 21 have 9724, 6 have 259, 7 have 400, 22 have 11155.
        shelf = shelf_of(3, a=bare(17), b=bare(17))
        self.assertEqual(told_error(shelf.kinds), FULL)
        self.assertEqual(told_error(shelf.kin, bare(17)), FULL)
        self.assertEqual(shelf.kin(bare(2)), ())
        shelf = shelf_of(3, a=bare(21), b=bare(6))
        self.assertEqual(shelf.kinds(), (("a",), ("b",)))
        self.assertEqual(shelf.kin(bare(6)), ("b",))
        self.assertEqual(told_error(shelf.kin, bare(7)), FULL)
        self.assertEqual(told_error(shelf_of(3, a=bare(21), b=bare(7)).kinds), FULL)
        self.assertEqual(told_error(shelf_of(3, a=bare(1), b=bare(21), c=bare(2), d=bare(7)).kinds), FULL)
        shelf = shelf_of(3, a=bare(22))
        self.assertEqual(told_error(shelf.kin, bare(1)), FULL)
        # A web alone is held against none.
        self.assertEqual(shelf.kinds(), (("a",),))
        self.assertEqual(told_error(shelf_of(3, a=bare(22), b=bare(1)).kinds), FULL)
        shelf = shelf_of(2, a=bare(40), b=bare(40))
        self.assertEqual(shelf.kinds(), (("a", "b"),))

    def test_the_same_again_whatever_was_asked_ahead(self):
        shelf = shelf_of(1, a=SIX, b=TWO)
        for _ in range(2):
            self.assertEqual((shelf.kin(SIX), shelf.kinds(), shelf.kin(PATH)), (("a", "b"), (("a", "b"),), ()))
        shelf.drop("b", None)
        self.assertEqual((shelf.kin(SIX), shelf.kinds()), (("a",), (("a",),)))


if __name__ == "__main__":
    unittest.main()
