"""A disk, and which lines of a shelf count. (0.2 to 0.5, 9.1)"""

import random
import unittest

from levelkin.errors import NoNumber, NoText
from levelkin.shelves import Disk, Shelf
from levelkin.texts import web_text
from levelkin.webs import Web

from tests.second_shelves import kept_by_words, line_by_words, sum_by_words
from tests.things import PATH, bare, ring, told_error, wrong_things

NO_NUMBERS = [
    -1, -10 ** 29, True, False, "1", (1,), [1], {}, (), "", b"",
    *[thing for thing in wrong_things() if thing is not None and thing != 10 ** 30 - 1],
]
ONE = Web(1, (3,), ())


def written(text):
    disk = Disk()
    disk.write(text, None)
    return disk


class Disks(unittest.TestCase):
    def test_writes(self):
        disk = Disk()
        self.assertEqual(disk.text(), "")
        self.assertIsNone(disk.write("ab", None))
        self.assertEqual(disk.text(), "ab")
        disk.write("cd\n", 0)
        self.assertEqual(disk.text(), "ab")
        disk.write("cd\n", 1)
        self.assertEqual(disk.text(), "abc")
        disk.write("de", 2)
        self.assertEqual(disk.text(), "abcde")
        disk.write("f", 2)
        disk.write("gh", 10 ** 29)
        self.assertEqual(disk.text(), "abcdefgh")
        for most in (None, 0, 5):
            disk.write("", most)
        disk.write("\n", None)
        self.assertEqual(disk.text(), "abcdefgh\n")

    def test_wrong_writes(self):
        disk = written("ab")
        for thing in wrong_things():
            if not isinstance(thing, str):
                for most in (None, 0, -1, True):
                    self.assertEqual(told_error(disk.write, thing, most), (NoText, {}))
        for most in NO_NUMBERS:
            self.assertEqual(told_error(disk.write, "cd", most), (NoNumber, {}))
            self.assertEqual(told_error(disk.write, "", most), (NoNumber, {}))
        self.assertEqual(disk.text(), "ab")

    def test_cuts(self):
        disk = written("abcdef")
        self.assertIsNone(disk.cut(6))
        self.assertEqual(disk.text(), "abcdef")
        for many in (7, 8, 10 ** 29, 10 ** 30 - 1, None, *NO_NUMBERS):
            self.assertEqual(told_error(disk.cut, many), (NoNumber, {}))
        self.assertEqual(disk.text(), "abcdef")
        disk.cut(2)
        self.assertEqual(disk.text(), "ab")
        self.assertEqual(told_error(disk.cut, 3), (NoNumber, {}))
        disk.cut(0)
        self.assertEqual(disk.text(), "")
        disk.cut(0)
        self.assertEqual(told_error(disk.cut, 1), (NoNumber, {}))
        disk.write("x", None)
        self.assertEqual(disk.text(), "x")

    def test_copies_go_on_apart(self):
        disk = written("ab")
        other = disk.copy()
        self.assertIs(type(other), Disk)
        other.write("c", None)
        self.assertEqual((disk.text(), other.text()), ("ab", "abc"))
        disk.cut(0)
        third = other.copy()
        other.cut(1)
        self.assertEqual((disk.text(), other.text(), third.text()), ("", "a", "abc"))

    def test_equal_to_nothing_of_another_class(self):
        for thing in [*wrong_things(), "", "ab"]:
            self.assertIs(written("ab") == thing, False)
            self.assertIs(thing == written("ab"), False)


class Lines(unittest.TestCase):
    def check(self, text):
        """What a new shelf on the disk keeps, and what of the disk stays."""
        disk = written(text)
        shelf = Shelf(disk, 1)
        kept, counting = kept_by_words(text)
        self.assertEqual(shelf.names(), tuple(sorted(kept)), text)
        for name in kept:
            self.assertEqual(shelf.web(name), kept[name])
        self.assertEqual(disk.text(), counting)
        again = Shelf(disk, 2)
        self.assertEqual(again.names(), shelf.names())
        self.assertEqual(disk.text(), counting)
        return shelf.names()

    def put(self, name, web=ONE):
        return line_by_words("put", name, web_text(web).replace("\n", "|")) + "\n"

    def drop(self, name):
        return line_by_words("drop", name) + "\n"

    def test_sums(self):
        # d is 68, r 82, o 79, p 80, the blank 0, a 65.
        self.assertEqual(sum_by_words("drop a"), 68 + 2 * 82 + 3 * 79 + 4 * 80 + 6 * 65)
        self.assertEqual(self.drop("a"), "drop a 1179\n")
        self.assertEqual(self.put("a"), "put a 14462 places 1|hues 3|\n")
        self.assertGreater(len(self.put("a", ring(40))), 900)
        self.assertEqual(self.check(self.put("abcdefgh", ring(40))), ("abcdefgh",))

    def test_lines_that_count(self):
        self.assertEqual(self.check(""), ())
        self.assertEqual(self.check(self.put("a")), ("a",))
        self.assertEqual(self.check(self.put("b") + self.put("a", PATH)), ("a", "b"))
        self.assertEqual(self.check(self.put("a") + self.put("a", PATH) + self.put("c")), ("a", "c"))
        self.assertEqual(self.check(self.put("a") + self.put("b") + self.drop("a")), ("b",))
        self.assertEqual(self.check(self.put("a") + self.drop("a")), ())
        self.assertEqual(self.check(self.put("a") + self.drop("a") + self.put("a", PATH)), ("a",))

    def test_a_line_that_does_not_count_and_all_behind_it(self):
        good, end = self.put("a") + self.put("b", PATH), self.put("c") + self.drop("a")
        for wrong in ["\n", " \n", "x\n", "put\n", "drop\n", "put a\n", "drop a\n", "put a 1\n", self.drop("c"),
                      self.drop("a").replace("\n", " \n"), " " + self.drop("a"), self.drop("a").replace(" ", "  ", 1),
                      self.drop("a").replace(" 1", "  1"), self.drop("a").replace("1179", "1178"),
                      self.drop("a").replace("1179", "01179"), self.drop("a").replace("1179", "+1179"),
                      self.drop("a").replace("1179", str(1179 + 999983)), self.drop("a").replace("1179", "-998804"),
                      self.drop("a").replace("1179", ""), "DROP a 1179\n", "drop a 1179 places 1|hues 3|\n",
                      "drop a 1179 x\n", self.put("c").replace("put", "lay"), self.put("c").replace(" ", "  ", 1),
                      self.put("c").replace("|\n", "\n"), self.put("c").replace("|\n", "| \n"),
                      self.put("c").replace("|", "\n"), "put c 0 \n", self.put("c").upper(), self.put("c")[:-1] + "|\n",
                      line_by_words("put", "c", "") + "\n", line_by_words("put", "", "places 1|hues 3|") + "\n",
                      line_by_words("put", "abcdefghi", "places 1|hues 3|") + "\n", self.put("C"), self.put("a1"),
                      self.put("a-b"), self.put("c").replace("put c", "put d"), self.drop("A"), self.drop(""),
                      line_by_words("put", "c", "places 1|hues 10|") + "\n",
                      line_by_words("put", "c", "places 0|hues|") + "\n",
                      line_by_words("put", "c", "places 01|hues 3|") + "\n",
                      line_by_words("put", "c", "places 1|hues 3") + "\n",
                      line_by_words("put", "c", "places 1|hues  3|") + "\n",
                      line_by_words("put", "c", "places 1|hues 3|tie 0 0 1|") + "\n",
                      line_by_words("put", "c", "places 1|hues 3|tie 0 0 0|tie 0 0 0|") + "\n",
                      line_by_words("put", "c", "|") + "\n", line_by_words("put", "c", "hue 0 0") + "\n"]:
            self.assertEqual(self.check(good + wrong + end), ("a", "b"), wrong)
            self.assertEqual(self.check(wrong + good), (), wrong)

    def test_names_of_1_to_8_letters(self):
        for name in ("a", "z", "zz", "abcdefgh", "zyxwvuts", "put", "drop", "none"):
            self.assertEqual(self.check(self.put(name)), (name,))
            self.assertEqual(self.check(self.put(name) + self.drop(name)), ())

    def test_a_line_without_its_line_feed(self):
        for text in (self.put("a"), self.put("a") + self.put("b", PATH), self.put("b") + self.drop("b")):
            for at in range(len(text) + 1):
                self.check(text[:at])

    def test_a_sign_changed_put_in_or_taken_out(self):
        chance = random.Random(121)
        text = self.put("a") + self.put("bc", PATH) + self.drop("a") + self.put("a", bare(2))
        for at in range(len(text)):
            for sign in (" ", "0", "1", "a", "|", "\n", chance.choice("~!d9")):
                self.check(text[:at] + sign + text[at:])
                self.check(text[:at] + sign + text[at + 1:])
            self.check(text[:at] + text[at + 1:])
            if at + 1 < len(text):
                # Two signs exchanged.
                self.check(text[:at] + text[at + 1] + text[at] + text[at + 2:])

    def test_texts_by_chance(self):
        chance = random.Random(122)
        seen = set()
        for _ in range(150):
            text = ""
            for _ in range(chance.randrange(8)):
                name = chance.choice("abc")
                text += chance.choice([self.put(name), self.put(name, PATH), self.drop(name), self.drop(name)])
            seen.add(self.check(text))
        self.assertGreater(len(seen), 5)


if __name__ == "__main__":
    unittest.main()
