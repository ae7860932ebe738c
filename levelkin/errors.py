"""The errors of the package. Each keeps its fields just as they are passed. (0.3)"""


class KinError(ValueError):
    """What all errors of the package derive from."""


class BadWeb(KinError):
    """A part of a web is wrong: "many", "hues", "ties", or the number of a tie."""

    def __init__(self, part):
        self.part = part


class BadBase(KinError):
    """A part of a base is wrong: "many", "ties", or the number of a tie."""

    def __init__(self, part):
        self.part = part


class BadPlay(KinError):
    """A stranger told what is no turn: "first" or "second", with the turns ahead."""

    def __init__(self, who, turns):
        self.who = who
        self.turns = turns


class BadMachine(KinError):
    """A machine told what is no state or letter, in a round, on a place."""

    def __init__(self, when, place):
        self.round = when
        self.place = place


class BadTeller(KinError):
    """A teller told what is no flag, or what is true of none of the webs."""

    def __init__(self, asked):
        self.asked = asked


class BadText(KinError):
    """A line of a web's text is wrong."""

    def __init__(self, line):
        self.line = line


class BadSaying(KinError):
    """At this sign the text of a saying cannot go on."""

    def __init__(self, place):
        self.place = place


class TooMany(KinError):
    """There are more than so many."""

    def __init__(self, most):
        self.most = most


class TooLong(KinError):
    """A text has more than so many signs."""

    def __init__(self, most):
        self.most = most


class NoOrder(KinError):
    """What was passed is no order."""

    def __init__(self):
        pass


class Full(KinError):
    """Two webs beside one another are no web any more."""

    def __init__(self):
        pass


class NoRow(KinError):
    """What was passed is no row of the web."""

    def __init__(self):
        pass


class NoWebs(KinError):
    """What was passed is no list or tuple of as many webs as are let."""

    def __init__(self):
        pass


class NoLevel(KinError):
    """What was passed is no level."""

    def __init__(self):
        pass


class NoSaying(KinError):
    """What was passed is no saying."""

    def __init__(self):
        pass


class NoPlaces(KinError):
    """What was passed does not tell places for all names that are needed."""

    def __init__(self):
        pass


class NoName(KinError):
    """What was passed is no name, or none that is known."""

    def __init__(self):
        pass


class NoNumber(KinError):
    """What was passed is no number, or none that is let."""

    def __init__(self):
        pass


class OtherWeb(KinError):
    """The two webs have unlike numbers of places."""

    def __init__(self):
        pass


class Over(KinError):
    """The game is won already."""

    def __init__(self):
        pass


class NoTurn(KinError):
    """The other player is to play."""

    def __init__(self):
        pass


class NoPlace(KinError):
    """What was passed is no place."""

    def __init__(self):
        pass


class NoIndex(KinError):
    """What was passed is no index that can be told now."""

    def __init__(self):
        pass


class NoTwists(KinError):
    """What was passed is no lot of numbers of ties."""

    def __init__(self):
        pass


class NoTie(KinError):
    """The base has no tie."""

    def __init__(self):
        pass


class NoMachine(KinError):
    """What was passed is no machine."""

    def __init__(self):
        pass


class NoText(KinError):
    """What was passed is no text."""

    def __init__(self):
        pass


class NoWeb(KinError):
    """What was passed is no web."""

    def __init__(self):
        pass


class Fallen(KinError):
    """The shelf has fallen: a line of it was cut."""

    def __init__(self):
        pass


class NoLine(KinError):
    """What was passed is no line that the desk knows."""

    def __init__(self):
        pass


class NothingDone(KinError):
    """There is nothing that can be taken back."""

    def __init__(self):
        pass
