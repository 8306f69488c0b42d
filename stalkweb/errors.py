"""The refusals of the program, each a class of its own."""


class WebError(ValueError):
    """A refusal of what was handed in; `word` is its class's name in small letters."""

    def __init__(self, text=""):
        ValueError.__init__(self, text)
        self.word = self.__class__.__name__.lower()


class BadField(WebError):
    """Neither 0 nor a prime from 2 to 97."""


class BadNumber(WebError):
    """A pair that is no number of the field."""


class Nought(WebError):
    """A division by nought."""


class BadShape(WebError):
    """A width, a count or a length that does not fit."""


class BadWeb(WebError):
    """No web."""


class BadWhole(WebError):
    """No assignment of the web."""


class BadAsk(WebError):
    """No list of columns for the ties of the web."""


class BadSaying(WebError):
    """No list of sayings of the web."""


class BadSteps(WebError):
    """Steps that do not follow one another, or a step along no tie."""


class NoWay(WebError):
    """A table does not turn back; `at` tells where."""

    def __init__(self, at):
        WebError.__init__(self, "a table does not turn back")
        self.at = at


class BadView(WebError):
    """No list of places to view the web at."""


class Unlike(WebError):
    """Two sections differ; `place` is the first place at which they do."""

    def __init__(self, place):
        WebError.__init__(self, "the two differ at a place")
        self.place = place


class Full(WebError):
    """One more than there may be."""


class NoSquares(WebError):
    """Squares are asked for by a prime."""


class NoMap(WebError):
    """Tables that are no map."""


class NoEnd(WebError):
    """A count is asked for where there is no end of sections."""


class NotStiff(WebError):
    """The web is not stiff."""


class BadDeed(WebError):
    """No deed."""


class BadRoom(WebError):
    """A room that is not 0 to 3."""


class Tied(WebError):
    """A tie stands at the place."""


class BadTable(WebError):
    """A table that does not fit its rooms or bounds."""


class BadEnd(WebError):
    """An end of a tie that is neither 0 nor 1."""


class BadColumn(WebError):
    """A column that does not fit its room or bounds."""


class NotSaid(WebError):
    """Nothing was said of the place."""


class Empty(WebError):
    """There is no place."""


class NothingLeft(WebError):
    """There is nothing to take back, or to do again."""


class BadText(WebError):
    """A text that can't be read; `row` is the first row at fault, from 0."""

    def __init__(self, row=0):
        WebError.__init__(self, "the text can't be read")
        self.row = row


class Missing(LookupError):
    """What is asked for is not there; `word` is its class's name in small letters."""

    def __init__(self, text=""):
        LookupError.__init__(self, text)
        self.word = self.__class__.__name__.lower()


class NoPlace(Missing):
    """There is no such place."""


class NoTie(Missing):
    """There is no such tie."""


class NoRow(Missing):
    """There is no such row."""


class NoSection(Missing):
    """There is no such section."""
