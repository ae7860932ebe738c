"""A desk that works by lines. (10)"""

from levelkin.bases import Base
from levelkin.colours import alike, colouring
from levelkin.errors import NoLine, NoName, NoTie, NothingDone
from levelkin.games import fewest
from levelkin.judging import is_figures, is_word
from levelkin.partings import parting
from levelkin.sayings import holds
from levelkin.texts import read_web, web_text
from levelkin.tongue import read_saying, saying_text
from levelkin.turnings import turning
from levelkin.twists import twisted

# What stands behind the first word of each form of line: a level K, a name N of which there must be a web, a name M
# of which there need be none, a text T, a base B.
FORMS = {
    "lay": "MT", "twist": "MMB", "drop": "N", "names": "", "show": "N", "alike": "KNN", "rounds": "KNN",
    "level": "NN", "colours": "KN", "say": "KNN", "ask": "NT", "same": "NN", "undo": "",
}
LEVELS = ("1", "2", "3")
NONE = "none"


def is_tie_word(word):
    """Whether a word is two numbers, joined."""
    ends = word.split("-")
    return len(ends) == 2 and all([is_figures(end) for end in ends])


def is_base_text(text):
    """Whether a text is a number of places, and ties behind it."""
    words = text.split(" ")
    return is_figures(words[0]) and all([is_tie_word(word) for word in words[1:]])


def base_of(text):
    """The base that a text tells."""
    words = text.split(" ")
    ties = [tuple([int(end) for end in word.split("-")]) for word in words[1:]]
    return Base(int(words[0]), tuple(ties))


def is_part(kind, word):
    """Whether a word, or a text, is what stands at such a place of a form."""
    if kind == "K":
        return word in LEVELS
    if kind == "T":
        return len(word) > 0
    if kind == "B":
        return is_base_text(word)
    return is_word(word)


def words_of(line):
    """The words of a line, a text at its end in one; None for what is no line of any form."""
    if not isinstance(line, str) or "\n" in line:
        return None
    first = line.partition(" ")[0]
    if first not in FORMS:
        return None
    form = FORMS[first]
    words = line.split(" ", len(form))
    if words[0] != first or len(words) != len(form) + 1:
        return None
    if not all([is_part(kind, word) for kind, word in zip(form, words[1:])]):
        return None
    return words


def yes_or_no(flag):
    """A flag as it is told."""
    return "yes" if flag else "no"


def tell_show(web):
    """The text of a web in one line."""
    return web_text(web).replace("\n", "|")


def tell_alike(level, one, other):
    """Whether two webs are alike."""
    return yes_or_no(alike(one, other, level))


def tell_rounds(level, one, other):
    """In how many rounds the first player wins, if he can."""
    rounds = fewest(one, other, level)
    return NONE if rounds is None else str(rounds)


def tell_level(one, other):
    """The least level at which two webs are not alike, if there is one."""
    for at, level in enumerate(LEVELS):
        if not alike(one, other, at + 1):
            return level
    return NONE


def tell_colours(level, web):
    """How many colours a web has, and behind which round they split no more."""
    rounds, told = colouring([web], level)
    many = len(set(list(told[0].values())))
    return f"{many} {rounds}"


def tell_say(level, one, other):
    """A saying that parts two webs, if there is one."""
    saying = parting(one, other, level)
    return NONE if saying is None else saying_text(saying)


def tell_ask(web, text):
    """Whether what a text says is true of a web."""
    return yes_or_no(holds(web, read_saying(text), {}))


def tell_same(one, other):
    """Whether two webs are the same."""
    return yes_or_no(turning(one, other) is not None)


QUESTIONS = {
    "show": tell_show, "alike": tell_alike, "rounds": tell_rounds, "level": tell_level, "colours": tell_colours,
    "say": tell_say, "ask": tell_ask, "same": tell_same,
}


class Desk:
    """Webs under names, and what was done to them."""

    def __init__(self):
        self.kept = {}
        # What was kept ahead of each lay, twist and drop that is not taken back: these dicts are never changed.
        self.past = []

    def tell(self, line):
        """Does what a line says, and tells what comes of it."""
        words = words_of(line)
        if words is None:
            raise NoLine()
        first = words[0]
        rest = words[1:]
        told = [self.meant(kind, word) for kind, word in zip(FORMS[first], rest)]
        if first == "lay":
            return self.lay(*rest)
        if first == "twist":
            return self.twist(*rest)
        if first == "drop":
            return self.drop(*rest)
        if first == "names":
            return " ".join(sorted(list(self.kept))) or NONE
        if first == "undo":
            return self.undo()
        question = QUESTIONS[first]
        return question(*told)

    def meant(self, kind, word):
        """The web of a name that is needed, a level; a word itself where it is anything else."""
        if kind == "N":
            if word not in self.kept:
                raise NoName()
            return self.kept[word]
        return int(word) if kind == "K" else word

    def done(self, kept):
        """Keeps these webs from now on."""
        self.past.append(self.kept)
        self.kept = kept
        return "ok"

    def lay(self, name, text):
        """Keeps the web of a text under a name."""
        return self.done({**self.kept, name: read_web(text.replace("|", "\n"))})

    def twist(self, name, other, text):
        """Keeps the web over a base without a twist under one name, that with a twist under another one."""
        base = base_of(text)
        web = twisted(base, ())
        if not base.ties:
            raise NoTie()
        return self.done({**self.kept, name: web, other: twisted(base, (0,))})

    def drop(self, name):
        """Keeps the web of a name no more."""
        return self.done({own: web for own, web in self.kept.items() if own != name})

    def undo(self):
        """Takes back what was done last."""
        if not self.past:
            raise NothingDone()
        self.kept = self.past.pop()
        return "ok"
