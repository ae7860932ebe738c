"""Sayings written in the tongue, and read. (8.2)"""

from levelkin.errors import BadSaying, TooLong
from levelkin.sayings import NAMES, Page, check_saying, reached, told_by
from levelkin.webs import HUES, KINDS, MOST_PLACES

LONGEST = 20000
MOST_BRACKETS = 100
BRACKETS = 3
HEADS = ("hue ", "same ", "tie ", "not", "all", "some", "many ")


def head_of(line):
    """What is written of a line ahead of those that it tells."""
    kind = line[0]
    if kind == "not" or kind == "all" or kind == "some":
        return kind
    words = line[:3] if kind == "many" else line
    return " ".join([str(word) for word in words])


def length_of(saying):
    """How many signs the text of a saying has; one more than are let for any longer one."""
    lengths = {}
    for at in reached(saying):
        line = saying[at]
        inner = sum([lengths[told] + BRACKETS for told in told_by(line)])
        # Lengths may grow twofold with each line: so they are told no further than is needed.
        lengths[at] = min(LONGEST + 1, len(head_of(line)) + inner)
    return lengths[len(saying) - 1]


def saying_text(saying):
    """The text of a saying in the tongue."""
    check_saying(saying)
    if length_of(saying) > LONGEST:
        raise TooLong(LONGEST)
    written = []
    # What is to be written, the next of it last: texts, and numbers of lines.
    left = [len(saying) - 1]
    while left:
        part = left.pop()
        if isinstance(part, str):
            written.append(part)
        else:
            line = saying[part]
            written.append(head_of(line))
            for told in told_by(line)[::-1]:
                left.extend([")", told, " ("])
    return "".join(written)


class Reader:
    """Reads a saying off a text, sign by sign.

    The stack has the lines that are begun: pairs of what tells the line itself, and the list of the numbers of those
    that it tells, as far as they are read.
    """

    def __init__(self, signs):
        self.signs = signs
        self.at = 0
        self.brackets = 0
        self.stack = []
        self.page = Page()

    def choose(self, words):
        """Reads the one of the words that stands here; none of them is the begin of another one."""
        many = 0
        left = words
        while many < len(left[0]):
            if self.at == len(self.signs):
                raise BadSaying(self.at)
            left = [word for word in left if word[many] == self.signs[self.at]]
            if not left:
                raise BadSaying(self.at)
            many = many + 1
            self.at = self.at + 1
        return left[0]

    def number(self, many, behind):
        """Reads one of the numbers below many, at most ten, and what stands behind it."""
        word = self.choose([f"{number}{behind}" for number in range(many)])
        return int(word[0])

    def bracket(self, words):
        """Reads one of the words, the last sign of each of which opens a bracket."""
        word = self.choose(words)
        if self.brackets == MOST_BRACKETS:
            raise BadSaying(self.at - 1)
        self.brackets = self.brackets + 1
        return word

    def begin(self):
        """Reads a line that tells no others to its end, any other one to where the first of these may stand."""
        head = self.choose(HEADS)
        if head == "hue ":
            self.end(("hue", self.number(NAMES, " "), self.number(HUES, "")))
        elif head == "same ":
            self.end(("same", self.number(NAMES, " "), self.number(NAMES, "")))
        elif head == "tie ":
            self.end(("tie", self.number(KINDS, " "), self.number(NAMES, " "), self.number(NAMES, "")))
        elif head == "many ":
            name = self.number(NAMES, " ")
            least = self.bracket([f"{number} (" for number in range(1, MOST_PLACES + 1)])
            self.stack.append((("many", name, int(least[:-2])), []))
        elif head == "not":
            self.bracket([" ("])
            self.stack.append((("not",), []))
        else:
            self.stack.append(((head,), []))

    def go_on(self):
        """Reads on in the line that was begun last: one that it tells, or its end."""
        words, told = self.stack[-1]
        if words[0] == "all" or words[0] == "some":
            if self.signs[self.at:self.at + 1] == " ":
                self.bracket([" ("])
                self.begin()
            else:
                self.stack.pop()
                self.end((words[0], tuple(told)))
        elif told:
            self.stack.pop()
            self.end((*words, told[0]))
        else:
            self.begin()

    def end(self, line):
        """Puts a line that is read, and reads the end of the bracket that it stands in, if it does."""
        number = self.page.put(line)
        if self.stack:
            self.choose([")"])
            self.brackets = self.brackets - 1
            self.stack[-1][1].append(number)


def read_saying(text):
    """A saying whose text this is."""
    if not isinstance(text, str):
        raise BadSaying(-1)
    reader = Reader(text)
    reader.begin()
    while reader.stack:
        reader.go_on()
    if reader.at < len(text):
        raise BadSaying(reader.at)
    return tuple(reader.page.lines)
