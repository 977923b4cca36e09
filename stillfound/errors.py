"""The errors of the package.

The messages don't show the fields: a field may hold anything, also what is long to show.
"""


class CardError(ValueError):
    """What all errors of the package are."""


class NoWeb(CardError):
    """This is no web, or none that is asked for here."""


class NoStanding(CardError):
    """This is no standing."""


class NoRow(CardError):
    """This is no row of deeds."""


class NoShape(CardError):
    """This is no shape of a pocket."""


class NoNumber(CardError):
    """This is no number, or none that is let here."""


class NoRules(CardError):
    """These are no rules, or not as many as people."""


class NoPerson(CardError):
    """This is nobody, or nobody who can be meant here."""


class NoLetter(CardError):
    """This is no letter on the way."""


class NoDeed(CardError):
    """This is no deed that can be done now."""


class Full(CardError):
    """Nobody else can come in."""


class NothingDone(CardError):
    """There is nothing to take back."""


class NoNote(CardError):
    """This is no note, or none that is on the way."""


class NoNotes(CardError):
    """These are no notes."""


class Held(CardError):
    """This card is held already."""


class NoCard(CardError):
    """This card is not held."""


class NoText(CardError):
    """This is no string."""


class NotLet(CardError):
    """A deed of a row can't be done: the one at the index."""

    def __init__(self, index):
        super().__init__("a deed of the row can't be done")
        self.index = index


class BadRule(CardError):
    """A part of a rule is wrong: "most", "rows", or the row of a shape."""

    def __init__(self, part):
        super().__init__("a part of the rule is wrong")
        self.part = part


class TooMany(CardError):
    """There are more of them than the most that is let."""

    def __init__(self, most):
        super().__init__("there are more than is let")
        self.most = most


class BadText(CardError):
    """A line of a text is wrong, counted from 1; 0 if there is no text."""

    def __init__(self, line):
        super().__init__("a line of the text is wrong")
        self.line = line
