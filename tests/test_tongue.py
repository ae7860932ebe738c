"""Sayings written in the tongue, and read. (0.2 to 0.5, 8.2; example e08)"""

import copy
import random
import unittest

from levelkin.errors import BadSaying, NoSaying, TooLong
from levelkin.partings import parting
from levelkin.sayings import depth, free, holds, is_saying
from levelkin.tongue import read_saying, saying_text

from tests.second_sayings import chance_sayings, long_sayings
from tests.second_tongue import first_bad, text_by_words
from tests.test_portraits import SIX, TWO
from tests.test_sayings import no_sayings
from tests.test_truth import all_places
from tests.things import PATH, bare, ring, small_webs, told_error, wrong_things

TIE = ("tie", 0, 0, 1)
LONG = (TooLong, {"most": 20000})
SIGNS = sorted(set("hue same tie not all some many () 0123456789 |\n-xX~"))


def bad(place):
    return BadSaying, {"place": place}


def wide(many):
    """A saying whose text has 3 + 6 * many signs: all of so many that are alls of none."""
    return ("all", ()), ("all", (0,) * many)


def doubled(many):
    """A saying with so many lines, each telling the one ahead twice."""
    return (("all", ()), *[("some", (at, at)) for at in range(many - 1)])


class Written(unittest.TestCase):
    def check(self, saying, text):
        before = copy.deepcopy(saying)
        self.assertEqual(saying_text(saying), text)
        self.assertEqual(saying, before)

    def test_each_kind_of_line(self):
        self.check((("hue", 3, 9),), "hue 3 9")
        self.check((("same", 0, 2),), "same 0 2")
        self.check((("tie", 3, 1, 0),), "tie 3 1 0")
        self.check((TIE, ("not", 0)), "not (tie 0 0 1)")
        self.check((("all", ()),), "all")
        self.check((("some", ()),), "some")
        self.check((TIE, ("all", (0,))), "all (tie 0 0 1)")
        self.check((TIE, ("hue", 0, 0), ("some", (1, 0, 1))), "some (hue 0 0) (tie 0 0 1) (hue 0 0)")
        self.check((TIE, ("many", 1, 2, 0)), "many 1 2 (tie 0 0 1)")
        self.check((("some", ()), ("many", 3, 40, 0)), "many 3 40 (some)")
        self.check((("all", ()), ("not", 0), ("not", 1)), "not (not (all))")

    def test_only_what_the_last_line_tells(self):
        self.check((TIE, ("hue", 0, 0)), "hue 0 0")
        self.check((TIE, ("not", 0), ("hue", 0, 0), ("not", 1)), "not (not (tie 0 0 1))")

    def test_lines_told_on_many_ways(self):
        self.check((TIE, ("not", 0), ("all", (0, 1, 0)), ("some", (2, 1, 2))),
                   "some (all (tie 0 0 1) (not (tie 0 0 1)) (tie 0 0 1)) (not (tie 0 0 1)) "
                   "(all (tie 0 0 1) (not (tie 0 0 1)) (tie 0 0 1))")

    def test_by_words(self):
        chance = random.Random(111)
        for saying in chance_sayings(chance, 500):
            text = text_by_words(saying)
            if len(text) <= 20000:
                self.check(saying, text)
            else:
                self.assertEqual(told_error(saying_text, saying), LONG)

    def test_20000_signs_and_more(self):
        # 3 + 6 * 3332 = 19995, and with "(some)" in the place of the last one so many more.
        self.assertEqual(len(saying_text(wide(3332))), 19995)
        self.assertEqual(told_error(saying_text, wide(3333)), LONG)
        lines = (("all", ()), ("some", ()))
        for somes in range(12):
            saying = (*lines, ("all", (1,) * somes + (0,) * (3332 - somes)))
            due = 19995 + somes
            if due <= 20000:
                self.assertEqual(len(saying_text(saying)), due)
                self.assertEqual(saying_text(saying), text_by_words(saying))
            else:
                self.assertEqual(told_error(saying_text, saying), LONG)

    def test_far_more_signs_than_can_be_written_out(self):
        for many in (15, 40, 1000, 8000):
            self.assertEqual(told_error(saying_text, doubled(many)), LONG)
        # What the last line does not tell may be as long as it likes.
        self.assertEqual(saying_text((*doubled(8000), ("hue", 0, 0))), "hue 0 0")
        self.assertEqual(told_error(saying_text, (("all", ()), *[("all", (at,) * 12) for at in range(5000)])), LONG)
        self.assertEqual(told_error(saying_text, (TIE, ("all", (0,) * 90000))), LONG)

    def test_lines_within_one_another(self):
        # Texts are written with any number of brackets within one another.
        for many in (99, 100, 101, 500, 3999):
            saying = (("all", ()), *[("not", at) for at in range(many)])
            text = "not (" * many + "all" + ")" * many
            if len(text) <= 20000:
                self.assertEqual(saying_text(saying), text)
            else:
                self.assertEqual(told_error(saying_text, saying), LONG)
        self.assertEqual(len(saying_text((("all", ()), *[("not", at) for at in range(3332)]))), 6 * 3332 + 3)
        for saying in long_sayings(5000):
            self.assertEqual(told_error(saying_text, saying), LONG)

    def test_what_is_no_saying(self):
        for thing in [*no_sayings(), *wrong_things(), "hue 0 0", None]:
            self.assertEqual(told_error(saying_text, thing), (NoSaying, {}))
        self.assertEqual(told_error(saying_text, (*doubled(100), ("not", 100))), (NoSaying, {}))


class Read(unittest.TestCase):
    def check(self, text):
        """What is read has just this text; or the first sign at which it cannot go on is told."""
        due = first_bad(text)
        if due is not None:
            self.assertEqual(told_error(read_saying, text), bad(due), text)
            return None
        saying = read_saying(text)
        self.assertIs(is_saying(saying), True)
        self.assertEqual(saying_text(saying), text)
        self.assertEqual(read_saying(text), saying)
        return saying

    def test_the_example(self):
        self.assertEqual(told_error(read_saying, "not (same 0 4)"), bad(12))
        self.assertEqual(saying_text((TIE, ("many", 1, 2, 0))), "many 1 2 (tie 0 0 1)")

    def test_true_where_the_first_is(self):
        chance = random.Random(112)
        webs = small_webs(12, 3)
        for saying in chance_sayings(chance, 300):
            text = text_by_words(saying)
            if len(text) <= 20000:
                read = self.check(text)
                self.assertEqual((free(read), depth(read)), (free(saying), depth(saying)))
                web = chance.choice(webs)
                for places in all_places(web, free(saying)):
                    self.assertIs(holds(web, read, places), holds(web, saying, places))

    def test_each_kind_of_line(self):
        for text in ("hue 0 0", "hue 3 9", "same 0 0", "same 3 3", "tie 0 0 0", "tie 3 3 3", "all", "some", "not (all)",
                     "all (some)", "all (some) (some) (some)", "some (all) (hue 1 1)", "many 0 1 (all)",
                     "many 3 40 (same 1 2)", "not (not (not (some)))", "all (all (all)) (all)",
                     "some (not (all (hue 0 0) (some) (tie 1 2 3))) (many 2 9 (all)) (all)"):
            self.assertIsNotNone(self.check(text))

    def test_numbers(self):
        for text in ("hue 4 0", "hue 0 10", "hue 00 0", "hue 0 00", "hue -1 0", "hue +1 0", "hue  0 0", "hue 0  0",
                     "same 4 0", "same 0 4", "same 0 00", "tie 4 0 0", "tie 0 4 0", "tie 0 0 4", "tie 00 0 0",
                     "many 4 1 (all)", "many 0 0 (all)", "many 0 41 (all)", "many 0 05 (all)", "many 0 00 (all)",
                     "many 0 100 (all)", "many 0 400 (all)", "many 0 50 (all)", "many 00 1 (all)", "many 0 -1 (all)",
                     "hue 0 0 ", " hue 0 0", "hue 0 0 0", "same 0 0 0", "tie 0 0 0 0", "hue0 0", "hue 0", "same 0",
                     "tie 0 0", "hue 0 x", "hue x 0", "many 0 1(all)", "many 0 1  (all)", "many 0 (all)",
                     "many 0 1 all"):
            self.assertIsNone(self.check(text))
        for count in range(1, 41):
            self.assertIsNotNone(self.check(f"many 0 {count} (all)"))
        self.assertEqual(told_error(read_saying, "many 0 41 (all)"), bad(8))
        self.assertEqual(told_error(read_saying, "many 0 05 (all)"), bad(7))
        self.assertEqual(told_error(read_saying, "hue 0 10"), bad(7))
        self.assertEqual(told_error(read_saying, "hue 4 0"), bad(4))
        self.assertEqual(told_error(read_saying, "tie 3 3 4"), bad(8))

    def test_ends_and_what_stands_behind(self):
        for text, place in (("", 0), ("a", 1), ("al", 2), ("all ", 4), ("all (", 5), ("all (all", 8),
                            ("all (all) ", 10), ("not", 3), ("not ", 4), ("not (", 5), ("many 0 4", 8),
                            ("many 0 4 ", 9), ("all)", 3), ("all (all))", 9), ("not (all) (all)", 9), ("not (all) ", 9),
                            ("all  (all)", 4), ("all(all)", 3), ("all ()", 5), ("all x", 4), ("all\n", 3), ("\n", 0),
                            ("|", 0), ("hue 0 0\n", 7), ("All", 0), ("alll", 3), ("sam", 3), ("so", 2), ("sx", 1),
                            ("tie 0 0 0)", 9), ("(all)", 0), ("not all", 4), ("not (all)(all)", 9), ("some (all)|", 10),
                            ("th", 1), ("mant 0 1 (all)", 3), ("not (some (hue 0 0)", 19)):
            self.assertEqual(told_error(read_saying, text), bad(place), text)
            self.assertEqual(first_bad(text), place)

    def test_cut_put_in_changed_and_taken_out(self):
        texts = ["not (same 0 3)", "many 1 40 (tie 0 0 1)", "many 1 4 (all)", "all (hue 0 0) (some) (not (all))",
                 "some (many 2 12 (all (some) (hue 3 9))) (not (tie 3 2 1)) (all)"]
        for text in texts:
            for at in range(len(text) + 1):
                self.check(text[:at])
                self.check(text[:at] + text[at + 1:])
                for sign in SIGNS:
                    self.check(text[:at] + sign + text[at:])
                    self.check(text[:at] + sign + text[at + 1:])

    def test_a_parting_saying(self):
        saying = parting(SIX, TWO, 2)
        text = saying_text(saying)
        read = self.check(text)
        self.assertEqual((holds(SIX, read, {}), holds(TWO, read, {})), (True, False))
        for at in range(0, len(text), 7):
            self.check(text[:at])

    def test_100_brackets_within_one_another_and_101(self):
        for head in ("not", "all", "some", "many 2 17", "many 0 3"):
            for inner in ("all", "hue 0 0"):
                text = f"{head} (" * 100 + inner + ")" * 100
                self.assertIsNotNone(self.check(text))
                self.assertIsNone(self.check(text[:-1]))
                self.assertIsNone(self.check(text + ")"))
                longer = f"{head} (" * 101 + inner + ")" * 101
                self.assertEqual(told_error(read_saying, longer), bad((len(head) + 2) * 101 - 1))
                # What leads to the bracket is let, as far as it goes.
                for less in range(1, 6):
                    cut = longer[:(len(head) + 2) * 101 - less]
                    self.assertEqual(told_error(read_saying, cut), bad(len(cut)))
        text = "all (" * 100 + "all" + ")" * 99 + " (all) (hue 0 0))"
        self.assertIsNotNone(self.check(text))
        self.assertEqual(told_error(read_saying, "all (" * 100 + "all (all)" + ")" * 100), bad(504))
        self.assertEqual(told_error(read_saying, "all (" * 100 + "all x"), bad(504))
        self.assertEqual(told_error(read_saying, "all (" * 100 + "all"), bad(503))
        # Brackets beside one another do not count.
        self.assertIsNotNone(self.check("all" + " (all (all))" * 150))
        for ahead in ("all (some)", "some (not (all)) (all (some) (some))"):
            self.assertIsNotNone(self.check(ahead + " (" + "not (" * 99 + "all" + ")" * 100))
            self.assertIsNone(self.check(ahead + " (" + "not (" * 100 + "all" + ")" * 101))
            self.assertEqual(told_error(read_saying, ahead + " (" + "not (" * 100), bad(len(ahead) + 501))

    def test_long_texts(self):
        for saying in (wide(3332), (("hue", 0, 0), ("all", (0,) * 1999))):
            text = saying_text(saying)
            self.assertEqual(saying_text(read_saying(text)), text)
            self.assertEqual(told_error(read_saying, text[:-1]), bad(len(text) - 1))
            self.assertEqual(told_error(read_saying, text[:-2] + "x"), bad(len(text) - 2))
        self.assertEqual(told_error(read_saying, "x" * 20000), bad(0))
        self.assertEqual(told_error(read_saying, "not (" * 4000), bad(504))

    def test_texts_of_much_that_stands_twice(self):
        text = saying_text(doubled(11))
        self.assertGreater(len(text), 10000)
        read = read_saying(text)
        self.assertEqual(saying_text(read), text)
        self.assertIs(holds(PATH, read, {}), True)
        self.assertIs(holds(ring(5), read_saying(f"not ({saying_text(doubled(10))})"), {}), False)
        self.assertIs(holds(bare(1), read_saying("some"), {}), False)

    def test_what_is_no_string(self):
        for thing in [*wrong_things(), b"all", ["all"], ("all",), (("all", ()),), 0, None]:
            if not isinstance(thing, str):
                self.assertEqual(told_error(read_saying, thing), bad(-1))


if __name__ == "__main__":
    unittest.main()
