"""Webs written as texts, and read. (0.2 to 0.5, 8.1; example e08)"""

import copy
import random
import unittest

from levelkin.errors import BadText, BadWeb
from levelkin.texts import read_web, web_text
from levelkin.webs import Web, beside

from tests.second_tongue import is_text_of_web
from tests.things import PATH, bare, chance_web, path, ring, small_webs, told_error, wrong_things

FULL = Web(40, (9,) * 40, tuple((kind, a, b) for kind in (0, 3) for a in range(40) for b in range(40))[:1600])
WHOLE = Web(20, tuple(range(10)) * 2, tuple((kind, a, b) for kind in range(4) for a in range(20) for b in range(20)))
TEXT = "places 3\nhues 0 0 0\ntie 0 0 1\ntie 0 1 0\ntie 0 1 2\ntie 0 2 1\n"


def line(number):
    return BadText, {"line": number}


def part(what):
    return BadWeb, {"part": what}


class Texts(unittest.TestCase):
    def check(self, web):
        before = copy.deepcopy(web)
        text = web_text(web)
        self.assertEqual(web, before)
        self.assertIs(type(text), str)
        self.assertEqual(read_web(text), web)
        self.assertIs(type(read_web(text)), Web)
        self.assertEqual(web_text(read_web(text)), text)
        lines = ["places " + str(web.many), " ".join(["hues", *map(str, web.hues)])]
        lines += [" ".join(["tie", *map(str, tie)]) for tie in web.ties]
        self.assertEqual(text, "\n".join(lines) + "\n")

    def test_the_example(self):
        self.assertEqual(web_text(Web(1, (3,), ((0, 0, 0),))), "places 1\nhues 3\ntie 0 0 0\n")
        self.assertEqual(web_text(PATH), TEXT)
        self.assertEqual(read_web(TEXT), PATH)

    def test_there_and_back(self):
        for web in [*small_webs(60, 6), PATH, bare(1), bare(40), ring(40), path(17), beside(ring(5), PATH), FULL,
                    WHOLE]:
            self.check(web)
        self.assertEqual((len(FULL.ties), len(WHOLE.ties)), (1600, 1600))
        chance = random.Random(101)
        for _ in range(20):
            self.check(chance_web(chance, chance.randrange(1, 41), 10, 4, 1) if chance.randrange(2) else bare(7))

    def test_the_longest_text(self):
        web = Web(40, (9,) * 40, tuple((k, a, b) for k in range(4) for a in range(20, 40) for b in range(20, 40)))
        self.assertEqual(len(web_text(web)), 10 + 85 + 1600 * 12)
        self.check(web)


class WrongTexts(unittest.TestCase):
    def check(self, text, due):
        self.assertEqual(told_error(read_web, text), due, text)

    def test_what_is_no_string(self):
        for thing in [*wrong_things(), TEXT.encode(), [TEXT], (TEXT,), None, 0, PATH]:
            if not isinstance(thing, str):
                self.check(thing, line(0))

    def test_empty_and_short_texts(self):
        self.check("", line(1))
        self.check("\n", line(1))
        self.check("places", line(1))
        self.check("places 1", line(1))
        self.check("places 1\n", line(2))
        self.check("places 1\nhues 0", line(2))
        self.check("places 1\n\n", line(2))
        self.check("places 1\nhues 0\n", None)
        self.check("places 1\nhues 0\n\n", line(3))
        self.check("places 1\nhues 0\ntie 0 0 0", line(3))
        self.check("places 1\nhues 0\ntie 0 0 0\n ", line(4))
        self.check("\nplaces 1\nhues 0\n", line(1))
        for at in range(len(TEXT)):
            self.check(TEXT[:at], line(TEXT[:at].count("\n") + 1) if at not in (20, 30, 40, 50) else None)

    def test_a_line_less_twice_and_in_another_place(self):
        rows = TEXT.splitlines(keepends=True)
        self.check("".join(rows[1:]), line(1))
        self.check("".join([rows[0], *rows[2:]]), line(2))
        self.check("".join([rows[0], *rows]), line(2))
        self.check("".join([rows[0], rows[1], *rows[1:]]), line(3))
        self.check("".join([rows[1], rows[0], *rows[2:]]), line(1))
        self.check("".join([*rows[:2], rows[0], *rows[2:]]), line(3))
        self.check("".join([*rows, rows[0]]), line(7))
        self.check("".join([*rows, rows[1]]), line(7))
        self.check("".join([rows[2], *rows]), line(1))
        self.check("".join([rows[0], rows[2], *rows[1:]]), line(2))
        # Ties' lines may come in any number and order: what they tell is the web's matter.
        self.check("".join([*rows[:3], rows[2], *rows[3:]]), part(1))
        self.check("".join([*rows[:2], rows[3], rows[2], *rows[4:]]), part(1))
        self.check("".join([*rows[:2], *rows[3:]]), None)

    def test_words(self):
        for wrong in ("places", "places ", "places 1 1", "place 1", "Places 1", "places  1", " places 1", "places 1 ",
                      "places -1", "places +1", "places 01", "places 00", "places 1234567890", "places 0000000001",
                      "places one", "places 1.", "places 1_0", "places\t1", "places1", "hues 1", "", " ", "1",
                      "places 0x1", "places 1e1"):
            self.check(wrong + "\nhues 0\n", line(1))
            self.check(wrong + "\nhue\n", line(1))
        for wrong in ("hues ", "hue 0", "hues  0", "hues 0 ", " hues 0", "hues 00", "hues -0", "hues 0  0", "Hues 0",
                      "hues 1234567890", "hues 0 a", "hues +1", "hues a", "", "hues0", "tie 0 0 0", "hues 0 0 01"):
            self.check("places 1\n" + wrong + "\n", line(2))
            self.check("places 1\n" + wrong + "\ntie\n", line(2))
            self.check("places 1\n" + wrong + "\ntie 0 0 0", line(2))
        for wrong in ("tie", "tie ", "tie 0", "tie 0 0", "tie 0 0 0 0", "ties 0 0 0", "tie 0 0 00", "tie 0  0 0",
                      "tie 0 0 0 ", " tie 0 0 0", "tie 0 -0 0", "tie 0 0 +0", "tie a 0 0", "tie 0 0 1234567890", "",
                      "hues 0", "places 1", "Tie 0 0 0", "tie 01 0 0", "tie  0 0 0", "tie,0,0,0", "tie 0 0 |"):
            self.check("places 1\nhues 0\n" + wrong + "\n", line(3))
            self.check("places 1\nhues 0\ntie 0 0 0\n" + wrong + "\n", line(4))
            self.check("places 1\nhues 0\ntie 0 0 0\n" + wrong + "\ntie\n", line(4))
            self.check("places 0\nhues 10\n" + wrong + "\nx", line(3))

    def test_no_web_only_where_all_lines_have_their_form(self):
        self.check("places 0\nhues 0\n", part("many"))
        self.check("places 41\nhues 99\ntie 9 9 9\n", part("many"))
        self.check("places 999999999\nhues 999999999\n", part("many"))
        self.check("places 1\nhues\n", part("hues"))
        self.check("places 1\nhues 10\ntie 9 9 9\n", part("hues"))
        self.check("places 1\nhues 0 0\n", part("hues"))
        self.check("places 2\nhues 0\n", part("hues"))
        self.check("places 1\nhues 123456789\n", part("hues"))
        self.check("places 1\nhues 0\ntie 4 0 0\n", part(0))
        self.check("places 1\nhues 0\ntie 0 0 1\n", part(0))
        self.check("places 1\nhues 0\ntie 0 0 0\ntie 0 0 0\n", part(1))
        self.check("places 1\nhues 0\ntie 0 0 0\ntie 1 999999999 0\n", part(1))
        self.check("places 0\nhues 0\ntie 0 0\n", line(3))
        self.check("places 0\nhues 0\ntie 9 9 9", line(3))

    def test_more_than_1600_ties(self):
        more = tuple((kind, a, b) for kind in range(2) for a in range(40) for b in range(40))[:1601]
        text = "places 40\nhues" + " 0" * 40 + "\n" + "".join("tie {} {} {}\n".format(*tie) for tie in more)
        self.check(text, part("ties"))
        self.assertEqual(len(read_web(text[:text.rindex("tie")]).ties), 1600)

    def test_changed_texts_by_words(self):
        chance = random.Random(102)
        seen = {}
        for _ in range(3000):
            text = web_text(chance.choice([PATH, *small_webs(10, 4)]))
            for _ in range(chance.randrange(1, 3)):
                at = chance.randrange(len(text))
                put = chance.choice([" ", "0", "1", "9", "-", "\n", "tie", "hues", "places 1\n", "", "", "000000000"])
                text = text[:at] + put + text[at + chance.randrange(2):]
            due = is_text_of_web(text)
            told = told_error(read_web, text)
            seen[due] = seen.get(due, 0) + 1
            if due is None:
                self.assertTrue(told is None or told[0] is BadWeb, text)
                if told is None:
                    self.assertEqual(web_text(read_web(text)), text)
            else:
                self.assertEqual(told, line(due), text)
        self.assertTrue({None, 1, 2, 3, 4} <= set(seen))


if __name__ == "__main__":
    unittest.main()
