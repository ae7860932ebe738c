"""A desk that works by lines. (0.2 to 0.5, 10.1)"""

import itertools
import random
import unittest

from levelkin.bases import Base
from levelkin.colours import alike, colouring
from levelkin.desk import Desk
from levelkin.errors import (
    BadBase, BadSaying, BadText, BadWeb, NoLine, NoName, NoPlaces, NoTie, NothingDone, TooLong, TooMany,
)
from levelkin.games import fewest
from levelkin.partings import is_parting
from levelkin.texts import read_web, web_text
from levelkin.tongue import read_saying
from levelkin.turnings import turning
from levelkin.twists import twisted
from levelkin.webs import Web, beside

from tests.test_portraits import ROOK, SIX, TORUS, TWO
from tests.things import PATH, bare, path, ring, small_webs, told_error, wrong_things

NO_LINE = (NoLine, {})
NO_NAME = (NoName, {})


def in_line(web):
    return web_text(web).replace("\n", "|")


def desk_of(**webs):
    desk = Desk()
    for name, web in webs.items():
        desk.tell(f"lay {name} {in_line(web)}")
    return desk


def kept(desk):
    """The dict of what a desk keeps, as it tells it."""
    names = desk.tell("names")
    if names == "none":
        return {}
    return {name: read_web(desk.tell(f"show {name}").replace("|", "\n")) for name in names.split(" ")}


class Told(unittest.TestCase):
    def test_lay_show_names_and_drop(self):
        desk = Desk()
        self.assertEqual(desk.tell("names"), "none")
        self.assertEqual(desk.tell("lay b places 1|hues 3|"), "ok")
        self.assertEqual(desk.tell("names"), "b")
        self.assertEqual(desk.tell("lay abcdefgh " + in_line(PATH)), "ok")
        self.assertEqual(desk.tell("lay a " + in_line(bare(40))), "ok")
        self.assertEqual(desk.tell("names"), "a abcdefgh b")
        self.assertEqual(desk.tell("show b"), "places 1|hues 3|")
        self.assertEqual(desk.tell("show abcdefgh"), "places 3|hues 0 0 0|tie 0 0 1|tie 0 1 0|tie 0 1 2|tie 0 2 1|")
        self.assertEqual(desk.tell("lay b " + in_line(ring(5))), "ok")
        self.assertEqual(kept(desk), {"a": bare(40), "abcdefgh": PATH, "b": ring(5)})
        self.assertEqual(desk.tell("drop abcdefgh"), "ok")
        self.assertEqual(desk.tell("names"), "a b")
        for word in ("lay", "names", "none", "drop", "undo", "ok"):
            self.assertEqual(desk.tell(f"lay {word} places 1|hues 0|"), "ok")
            self.assertEqual(desk.tell(f"drop {word}"), "ok")

    def test_twist(self):
        desk = Desk()
        base = Base(3, ((0, 1), (0, 2), (1, 2)))
        self.assertEqual(desk.tell("twist a b 3 0-1 0-2 1-2"), "ok")
        self.assertEqual(kept(desk), {"a": twisted(base, ()), "b": twisted(base, (0,))})
        # One name twice: the second web is kept.
        self.assertEqual(desk.tell("twist c c 2 0-1"), "ok")
        self.assertEqual(kept(desk)["c"], twisted(Base(2, ((0, 1),)), (0,)))
        self.assertEqual(desk.tell("twist b a 3 0-1 0-2 1-2"), "ok")
        self.assertEqual((kept(desk)["a"], kept(desk)["b"]), (twisted(base, (0,)), twisted(base, ())))
        self.assertEqual([desk.tell(f"alike {level} a b") for level in (1, 2, 3)], ["yes", "no", "no"])
        self.assertEqual((desk.tell("level a b"), desk.tell("same a b")), ("2", "no"))

    def test_questions(self):
        webs = {"a": PATH, "b": ring(3), "c": bare(3), "d": bare(2), "e": SIX, "f": TWO, "g": path(3)}
        webs.update(zip("hijklm", small_webs(6, 4)))
        desk = desk_of(**webs)
        for level in (1, 2, 3):
            for name, web in webs.items():
                rounds, told = colouring([web], level)
                due = f"{len(set(told[0].values()))} {rounds}"
                self.assertEqual(desk.tell(f"colours {level} {name}"), due)
            for (one, mine), (other, yours) in itertools.product(list(webs.items())[::2], list(webs.items())[1::2]):
                is_alike = alike(mine, yours, level)
                self.assertEqual(desk.tell(f"alike {level} {one} {other}"), "yes" if is_alike else "no")
                rounds = fewest(mine, yours, level)
                self.assertEqual(desk.tell(f"rounds {level} {one} {other}"), "none" if is_alike else str(rounds))
                said = desk.tell(f"say {level} {one} {other}")
                if is_alike:
                    self.assertEqual(said, "none")
                else:
                    self.assertIs(is_parting(mine, yours, level, read_saying(said)), True)
                    self.assertEqual((desk.tell(f"ask {one} {said}"), desk.tell(f"ask {other} {said}")), ("yes", "no"))
        for (one, mine), (other, yours) in itertools.product(webs.items(), repeat=2):
            is_same = turning(mine, yours) is not None
            self.assertEqual(desk.tell(f"same {one} {other}"), "yes" if is_same else "no")
            unlike = [level for level in (1, 2, 3) if not alike(mine, yours, level)] if mine.many < 6 else None
            if unlike is not None:
                self.assertEqual(desk.tell(f"level {one} {other}"), str(unlike[0]) if unlike else "none")
        self.assertEqual(kept(desk), webs)

    def test_levels(self):
        desk = desk_of(six=SIX, two=TWO, one=bare(6), rook=ROOK, torus=TORUS, t=TORUS)
        self.assertEqual(desk.tell("level six one"), "1")
        self.assertEqual(desk.tell("level six two"), "2")
        self.assertEqual(desk.tell("level rook torus"), "3")
        self.assertEqual(desk.tell("level torus t"), "none")
        self.assertEqual(desk.tell("level six six"), "none")
        self.assertEqual(desk.tell("rounds 2 six two"), "3")
        self.assertEqual(desk.tell("rounds 1 six two"), "none")
        self.assertEqual(desk.tell("rounds 1 six rook"), "0")

    def test_ask(self):
        desk = desk_of(a=PATH)
        for text, due in (("all", "yes"), ("some", "no"), ("many 0 3 (all)", "yes"), ("many 0 4 (all)", "no"),
                          ("many 0 1 (many 1 2 (tie 0 0 1))", "yes"), ("many 0 2 (many 1 2 (tie 0 0 1))", "no")):
            self.assertEqual(desk.tell("ask a " + text), due)
        for text in ("hue 0 0", "many 0 1 (tie 0 0 1)", "not (same 2 3)"):
            self.assertEqual(told_error(desk.tell, "ask a " + text), (NoPlaces, {}))

    def test_texts_of_webs_with_no_ties_and_of_many(self):
        full = Web(20, (0,) * 20, tuple((kind, a, b) for kind in range(4) for a in range(20) for b in range(20)))
        desk = desk_of(full=full)
        self.assertEqual(kept(desk), {"full": full})


class Undo(unittest.TestCase):
    def test_each_kind(self):
        desk = desk_of(a=PATH)
        self.assertEqual(desk.tell("lay a " + in_line(bare(2))), "ok")
        self.assertEqual(desk.tell("undo"), "ok")
        self.assertEqual(kept(desk), {"a": PATH})
        desk.tell("twist a b 2 0-1")
        self.assertEqual(desk.tell("names"), "a b")
        self.assertEqual(desk.tell("undo"), "ok")
        self.assertEqual(kept(desk), {"a": PATH})
        desk.tell("drop a")
        self.assertEqual(desk.tell("names"), "none")
        self.assertEqual(desk.tell("undo"), "ok")
        self.assertEqual(kept(desk), {"a": PATH})
        desk.tell("twist a a 2 0-1")
        self.assertEqual(desk.tell("undo"), "ok")
        self.assertEqual(kept(desk), {"a": PATH})
        self.assertEqual(desk.tell("undo"), "ok")
        self.assertEqual(kept(desk), {})
        for _ in range(2):
            self.assertEqual(told_error(desk.tell, "undo"), (NothingDone, {}))

    def test_undo_behind_undo(self):
        chance = random.Random(141)
        desk, ahead, now = Desk(), [], {}
        for _ in range(300):
            turn = chance.randrange(6)
            name, other = chance.choice("abc"), chance.choice("abc")
            if turn < 2:
                web = chance.choice(small_webs(9, 3))
                ahead.append(now)
                now = {**now, name: web}
                self.assertEqual(desk.tell(f"lay {name} {in_line(web)}"), "ok")
            elif turn == 2:
                base = Base(3, ((0, 1), (1, 2)))
                ahead.append(now)
                now = {**now, name: twisted(base, ()), other: twisted(base, (0,))} if name != other else {
                    **now, name: twisted(base, (0,))}
                self.assertEqual(desk.tell(f"twist {name} {other} 3 0-1 1-2"), "ok")
            elif turn == 3 and name in now:
                ahead.append(now)
                now = {key: now[key] for key in now if key != name}
                self.assertEqual(desk.tell(f"drop {name}"), "ok")
            elif ahead:
                now = ahead.pop()
                self.assertEqual(desk.tell("undo"), "ok")
            else:
                self.assertEqual(told_error(desk.tell, "undo"), (NothingDone, {}))
            self.assertEqual(kept(desk), now)

    def test_what_only_asks_or_raised_is_none_to_take_back(self):
        desk = desk_of(a=PATH, b=bare(3))
        for line in ("names", "show a", "alike 1 a b", "rounds 1 a b", "level a b", "colours 1 a", "say 1 a b",
                     "ask a all", "same a b"):
            desk.tell(line)
        for line in ("lay c x", "lay c places 0|hues|", "twist c d 1", "twist c d 9 0-1", "drop c", "x", "drop",
                     "ask a x", "twist c d 7 " + " ".join(f"{a}-{b}" for a in range(7) for b in range(a + 1, 7))):
            self.assertIsNotNone(told_error(desk.tell, line))
        self.assertEqual(kept(desk), {"a": PATH, "b": bare(3)})
        self.assertEqual(desk.tell("undo"), "ok")
        self.assertEqual(kept(desk), {"a": PATH})
        self.assertEqual(desk.tell("undo"), "ok")
        self.assertEqual(told_error(desk.tell, "undo"), (NothingDone, {}))

    def test_desks_go_on_apart(self):
        one, other = Desk(), Desk()
        one.tell("lay a places 1|hues 0|")
        self.assertEqual((one.tell("names"), other.tell("names")), ("a", "none"))
        self.assertEqual(told_error(other.tell, "undo"), (NothingDone, {}))


class Errors(unittest.TestCase):
    def check(self, desk, line, due):
        before = kept(desk)
        self.assertEqual(told_error(desk.tell, line), due, line)
        self.assertEqual(kept(desk), before)

    def test_what_is_no_string_or_has_a_line_feed(self):
        desk = desk_of(a=PATH)
        for thing in [*wrong_things(), ["names"], ("names",), b"names", None, 0, "names\n", "\nnames", "names\nnames",
                      "lay b places 1\nhues 0\n", "show a\n", "show\na", "\n", ""]:
            self.check(desk, thing, NO_LINE)

    def test_what_has_none_of_the_forms(self):
        desk = desk_of(a=PATH, b=bare(3))
        forms = ["names", "undo", "show a", "drop a", "alike 1 a b", "rounds 2 a b", "level a b", "colours 3 a",
                 "say 1 a b", "ask a all", "same a b", "twist a b 2 0-1", "twist a b 3 0-1 1-2"]
        for line in forms:
            words = line.split(" ")
            wrong = [" " + line, line.upper(), line.capitalize(), words[0][:-1] + " " + " ".join(words[1:])]
            for at in range(1, len(words)):
                wrong.append(" ".join(words[:at]) + "  " + " ".join(words[at:]))
                if words[0] not in ("twist", "ask"):
                    wrong.append(" ".join(words[:at] + words[at + 1:]))
                    wrong.append(" ".join(words[:at] + [words[at]] + words[at:]))
            if words[0] != "ask":
                wrong.extend([line + " ", line + " x", line + " 1", line + "\t"])
                for one in wrong:
                    self.check(desk, one, NO_LINE)
        for line in ("ask", "ask a", "ask a ", "ask  a all", "ask A all", "lay", "lay c", "lay c ", "lay  c x",
                     "lay C x", "lay abcdefghi x", "lay c1 x", "lay  x", "hello", "names none", "undo undo", "undo 1",
                     "show", "drop", "show a b", "drop a b", "same a", "same a b c", "level 1 a b", "alike a b",
                     "colours a", "say a b"):
            self.check(desk, line, NO_LINE)

    def test_names_and_levels(self):
        desk = desk_of(a=PATH)
        for name in ("A", "a1", "", "abcdefghi", "a-b", "1", "a|", "-", "aB"):
            for line in ("show {}", "drop {}", "alike 1 {} a", "alike 1 a {}", "same {} a", "level a {}", "ask {} all",
                         "lay {} places 1|hues 0|", "twist {} a 2 0-1", "twist a {} 2 0-1", "colours 1 {}"):
                self.check(desk, line.format(name), NO_LINE)
        for level in ("0", "4", "", "01", "-1", "+1", "1.", "12", "a", "9", "11", "one"):
            for line in ("alike {} a a", "rounds {} a a", "colours {} a", "say {} a a", "alike {} x y"):
                self.check(desk, line.format(level), NO_LINE)

    def test_names_under_which_no_web_stands(self):
        desk = desk_of(a=PATH)
        for line in ("show b", "drop b", "alike 1 b a", "alike 1 a b", "alike 3 b c", "rounds 1 a b", "rounds 1 b a",
                     "level a b", "level b a", "colours 1 b", "say 1 b a", "say 1 a b", "ask b all", "ask b x",
                     "same a b", "same b a", "same b b", "ask b |"):
            self.check(desk, line, NO_NAME)
        self.check(Desk(), "drop a", NO_NAME)

    def test_texts_that_are_none(self):
        desk = desk_of(a=PATH)
        for text, due in (("x", (BadText, {"line": 1})), ("|", (BadText, {"line": 1})), (" ", (BadText, {"line": 1})),
                          ("places 1|hues 0", (BadText, {"line": 2})), ("places 1|hues 0||", (BadText, {"line": 3})),
                          (" places 1|hues 0|", (BadText, {"line": 1})), ("places 1|", (BadText, {"line": 2})),
                          ("places 1|hues 0| ", (BadText, {"line": 3})), ("places 1|hue 0|", (BadText, {"line": 2})),
                          ("places 0|hues 0|", (BadWeb, {"part": "many"})),
                          ("places 1|hues|", (BadWeb, {"part": "hues"})),
                          ("places 1|hues 0|tie 0 0 1|", (BadWeb, {"part": 0})),
                          ("places 1|hues 0|tie 0 0|", (BadText, {"line": 3}))):
            self.check(desk, "lay a " + text, due)
            self.check(desk, "lay b " + text, due)

    def test_bases_that_are_none(self):
        desk = desk_of(a=PATH)
        for text, part in (("0", "many"), ("9", "many"), ("999999999", "many"), ("2", "ties"), ("3 0-1", "ties"),
                           ("2 1-0", 0), ("2 0-0", 0), ("2 0-2", 0), ("3 0-1 0-1", 1), ("3 1-2 0-1", 1),
                           ("2 0-1 0-1", 1), ("2 0-999999999", 0),
                           ("8 " + " ".join(f"0-{p}" for p in range(1, 8)), "ties"), ("0 1-0", "many"), ("1 0-1", 0)):
            self.check(desk, "twist a b " + text, (BadBase, {"part": part}))
        for text in ("", "-1", "01", "1234567890", "2 0-01", "2 0-1234567890", "2 0_1", "2 01", "2 0-1-2", "2 0-",
                     "2 -1", "2 0--1", "2 +0-1", "x", "2 a-b", "2 0 -1", "2,0-1", "2 0-1 ", "2  0-1", "2 0-1  0-1",
                     " 2 0-1", "00"):
            self.check(desk, "twist a b " + text, NO_LINE)
            self.check(desk, "twist x y " + text, NO_LINE)
        self.check(desk, "twist a b", NO_LINE)
        self.check(desk, "twist a", NO_LINE)
        self.check(desk, "twist", NO_LINE)
        self.check(desk, "twist a b 1", (NoTie, {}))
        self.check(desk, "twist a a 1", (NoTie, {}))
        large = "7 " + " ".join(f"{a}-{b}" for a in range(7) for b in range(a + 1, 7))
        self.check(desk, "twist a b " + large, (TooMany, {"most": 40}))
        self.check(desk, "twist a b 8 " + large[2:], (BadBase, {"part": "ties"}))

    def test_sayings_that_are_none(self):
        desk = desk_of(a=PATH)
        for text, place in (("x", 0), (" ", 0), ("all ", 4), (" all", 0), ("not (same 0 4)", 12), ("all|", 3), ("|", 0),
                            ("hue 0 0 ", 7), ("hue 0", 5), ("all (all|", 8)):
            self.check(desk, "ask a " + text, (BadSaying, {"place": place}))

    def test_webs_that_are_too_large(self):
        desk = desk_of(a=bare(12), b=bare(13), c=ring(17), d=ring(40), e=ring(12))
        self.assertEqual((desk.tell("same a a"), desk.tell("same a e")), ("yes", "no"))
        for line in ("same a b", "same b a", "same b b", "same d a"):
            self.check(desk, line, (TooMany, {"most": 12}))
        rows = (TooMany, {"most": 10000})
        for line in ("alike 3 c c", "rounds 3 c c", "say 3 c c", "colours 3 d", "alike 3 a d"):
            self.check(desk, line, rows)
        # Level 3 is only asked behind levels at which they are alike.
        self.assertEqual(desk.tell("level c b"), "1")
        self.assertEqual(desk.tell("level d a"), "1")
        self.check(desk, "level c c", rows)

    def test_a_saying_that_is_too_long(self):
        desk = desk_of(a=beside(path(19), path(21)), b=beside(path(20), path(20)))
        self.check(desk, "say 1 a b", (TooLong, {"most": 20000}))
        self.assertEqual(desk.tell("ask b " + desk.tell("say 2 a b")), "no")


if __name__ == "__main__":
    unittest.main()
