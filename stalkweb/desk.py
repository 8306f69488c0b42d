"""A desk: a book that is asked and changed by lines."""

from stalkweb.book import Book
from stalkweb.deeds import check_saying
from stalkweb.errors import BadText, Missing, WebError
from stalkweb.sayings import goes_on
from stalkweb.texts import column_text, deed_text, read_deed


def several(texts):
    """Several things in one text."""
    return ", ".join(texts) if texts else "none"


def taken_back(book):
    """Takes the last deed back, and tells its row."""
    return deed_text(book.undo())


def done_again(book):
    """Does a deed again, and tells its row."""
    return deed_text(book.redo())


def places_told(book):
    """The places' numbers."""
    return several([str(number) for number, room in book.places()])


def ties_told(book):
    """The ties' numbers."""
    return several([str(tie[0]) for tie in book.ties()])


def sayings_told(book):
    """What was said of each place."""
    return several([f"{number} {column_text(column)}" for number, column in book.said()])


def free_told(book):
    """The free count."""
    return str(book.free())


def gap_told(book):
    """The gap count."""
    return str(book.gap())


def sections_told(book):
    """The base of sections."""
    return several([" ".join([column_text(column) for column in whole]) for whole in book.sections()])


def going_told(book):
    """Whether the sayings go on."""
    return "against" if book.goes_on() is None else "on"


def holding_told(book, things):
    """Whether some section has the column at the place, both written as for a saying."""
    _, place, column = read_deed(book.field, f"say {things}")
    web = book.web()
    rooms = dict(book.places())
    check_saying(book.field, rooms, place, column)
    return "no" if goes_on(web, [(list(rooms).index(place), column)]) is None else "yes"


QUESTIONS = {
    "undo": taken_back,
    "redo": done_again,
    "places": places_told,
    "ties": ties_told,
    "said": sayings_told,
    "free": free_told,
    "gap": gap_told,
    "sections": sections_told,
    "goes": going_told,
}


def answer(book, line):
    """What the line is answered with; its refusals are raised."""
    if line in QUESTIONS:
        question = QUESTIONS[line]
        return question(book)
    word, _, things = line.partition(" ")
    if word == "held":
        return holding_told(book, things)
    number = book.do(read_deed(book.field, line))
    return "done" if number is None else str(number)


class Desk:
    """A book of a field that answers lines."""

    def __init__(self, field=0):
        self.held = Book(field)

    def say(self, line):
        """The answer to a line."""
        try:
            return answer(self.held, line)
        except BadText:
            return "what"
        except (WebError, Missing) as refusal:
            return f"no {refusal.word}"

    def book(self):
        """A twin of the desk's book."""
        return self.held.twin()
