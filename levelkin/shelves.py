"""A disk that may be cut anywhere, and a shelf that keeps webs on it. (9)"""

from levelkin.colours import alike, kinds_of
from levelkin.errors import BadText, BadWeb, Fallen, NoLevel, NoName, NoNumber, NoText, NoWeb
from levelkin.judging import is_below, is_level, is_number, is_word
from levelkin.texts import read_web, web_text
from levelkin.webs import Web

DIVISOR = 999983
# Blanks behind which the web's text stands in a line.
BLANKS = 3


class Disk:
    """A text that is written on behind its end, and cut."""

    def __init__(self):
        self.signs = ""

    def text(self):
        """The whole text."""
        return self.signs

    def write(self, text, most):
        """Puts a text behind, or its first signs alone, at most so many."""
        if not isinstance(text, str):
            raise NoText()
        if most is not None and not is_number(most):
            raise NoNumber()
        self.signs = self.signs + (text if most is None else text[:most])

    def cut(self, many):
        """Keeps the first signs alone, so many."""
        if not is_below(len(self.signs) + 1, many):
            raise NoNumber()
        self.signs = self.signs[:many]

    def copy(self):
        """A disk with this text that goes on apart."""
        disk = Disk()
        disk.signs = self.signs
        return disk


def sum_of(text):
    """What is left of the sum of the numbers of all signs, each times its place."""
    return sum([at * (ord(sign) - ord(" ")) for at, sign in enumerate(text, start=1)]) % DIVISOR


def put_line(name, text):
    """The line, without its line feed, that puts a web under a name; text has no line feeds either."""
    number = sum_of(f"put {name} {text}")
    return f"put {name} {number} {text}"


def drop_line(name):
    """The line, without its line feed, that drops a name."""
    number = sum_of(f"drop {name}")
    return f"drop {name} {number}"


def in_line(text):
    """A web's text as it stands in a line."""
    return text.replace("\n", "|")


def out_of_line(text):
    """What stands in a line as a web's text."""
    return text.replace("|", "\n")


def web_of(text):
    """The web that a text tells, or None."""
    try:
        return read_web(text)
    except (BadText, BadWeb):
        return None


def entry_of(line):
    """The pair (name, web) that a line tells, None in the place of the web for a drop; None for what is no line."""
    words = line.split(" ", BLANKS)
    if len(words) < BLANKS or not is_word(words[1]):
        return None
    name = words[1]
    if line == drop_line(name):
        return name, None
    if len(words) == BLANKS or line != put_line(name, words[BLANKS]):
        return None
    web = web_of(out_of_line(words[BLANKS]))
    return None if web is None else (name, web)


def lines_read(text):
    """The dict of the webs that the lines that count tell, and how many signs these lines have."""
    kept = {}
    end = 0
    for line in text.split("\n")[:-1]:
        entry = entry_of(line)
        if entry is None or (entry[1] is None and entry[0] not in kept):
            break
        name, web = entry
        if web is None:
            del kept[name]
        else:
            kept[name] = web
        end = end + len(line) + 1
    return kept, end


class Shelf:
    """Webs under names, kept on a disk by lines."""

    def __init__(self, disk, level):
        if not is_level(level):
            raise NoLevel()
        self.kept, end = lines_read(disk.text())
        disk.cut(end)
        self.disk = disk
        self.level = level
        self.fallen = False

    def check_standing(self):
        """Raises the error of a shelf that has fallen."""
        if self.fallen:
            raise Fallen()

    def wrote(self, line, most):
        """Writes a line, or its first signs alone; whether that is all of it: else the shelf has fallen."""
        signs = line + "\n"
        # What is neither None nor a number the disk finds, ahead of any change.
        self.disk.write(signs, most)
        self.fallen = most is not None and most < len(signs)
        return not self.fallen

    def put(self, name, web, most):
        """Keeps a web under a name."""
        self.check_standing()
        if not is_word(name):
            raise NoName()
        if not isinstance(web, Web):
            raise NoWeb()
        if self.wrote(put_line(name, in_line(web_text(web))), most):
            self.kept[name] = web

    def drop(self, name, most):
        """Keeps the web of a name no more."""
        self.check_standing()
        if not is_word(name) or name not in self.kept:
            raise NoName()
        if self.wrote(drop_line(name), most):
            del self.kept[name]

    def names(self):
        """All names that are kept, ascending."""
        return tuple(sorted(list(self.kept)))

    def web(self, name):
        """The web that is kept under a name."""
        self.check_standing()
        if not is_word(name) or name not in self.kept:
            raise NoName()
        return self.kept[name]

    def kin(self, web):
        """The names whose webs are alike to one."""
        self.check_standing()
        return tuple([name for name in self.names() if alike(web, self.kept[name], self.level)])

    def kinds(self):
        """The tuples of the names whose webs are alike with one another."""
        self.check_standing()
        names = self.names()
        told = {}
        for name, kind in zip(names, kinds_of([self.kept[name] for name in names], self.level)):
            told.setdefault(kind, []).append(name)
        return tuple(sorted([tuple(alike_ones) for alike_ones in told.values()]))
