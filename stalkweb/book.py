"""A book: a web and sayings that come about by deeds, which can be taken back and done again."""

from stalkweb.deeds import State, done
from stalkweb.errors import Empty, NothingLeft
from stalkweb.gaps import gap
from stalkweb.numbers import check_field
from stalkweb.sayings import against, goes_on
from stalkweb.texts import deed_text
from stalkweb.whole import free, sections


class Book:
    """A web of a field and sayings, with the deeds that made them."""

    def __init__(self, field=0):
        check_field(field)
        self.field = field
        self.state = State()
        # Pairs (deed, state): the state ahead of a deed that stands, behind one that was taken back.
        self.standing = []
        self.undone = []

    def do(self, deed):
        """Does the deed and tells the number of a new place or tie, else None."""
        state, number = done(self.field, self.state, deed)
        self.standing.append((deed, self.state))
        self.undone = []
        self.state = state
        return number

    def undo(self):
        """Takes the last deed back that stands, and tells it."""
        if not self.standing:
            raise NothingLeft("no deed stands")
        deed, state = self.standing.pop()
        self.undone.append((deed, self.state))
        self.state = state
        return deed

    def redo(self):
        """Does the deed again that was taken back last, and tells it."""
        if not self.undone:
            raise NothingLeft("no deed was taken back")
        deed, state = self.undone.pop()
        self.standing.append((deed, self.state))
        self.state = state
        return deed

    def deeds(self):
        """The deeds that stand, the eldest first."""
        return [deed for deed, state in self.standing]

    def places(self):
        """Pairs (number, room), rising."""
        return [(number, room) for number, room in self.state.rooms.items()]

    def ties(self):
        """Tuples (number, one, other, room, first, second), rising, by the places' numbers."""
        return [(number,) + tie for number, tie in self.state.bonds.items()]

    def said(self):
        """Pairs (number, column), rising by the places' numbers."""
        # Places and ties stand as they came, and so by their numbers; what was said came in any order.
        return [(place, self.state.columns[place]) for place in sorted(self.state.columns)]

    def web(self):
        """The web, its places and ties numbered anew in the order of their numbers."""
        if not self.state.rooms:
            raise Empty("the book has no place")
        order = list(self.state.rooms)
        ties = [
            (order.index(one), order.index(other), room, first, second)
            for one, other, room, first, second in self.state.bonds.values()
        ]
        return (self.field, tuple(self.state.rooms.values()), tuple(ties))

    def sayings(self):
        """Pairs (place, column), rising by the web's places."""
        if not self.state.rooms:
            raise Empty("the book has no place")
        order = list(self.state.rooms)
        return [(order.index(place), column) for place, column in self.said()]

    def free(self):
        """The free count of the web."""
        return free(self.web())

    def gap(self):
        """The gap count of the web."""
        return gap(self.web())

    def sections(self):
        """The base of sections of the web."""
        return sections(self.web())

    def goes_on(self):
        """A section of the web that goes on from the sayings, or None."""
        return goes_on(self.web(), self.sayings())

    def against(self):
        """Weights of the web's ties that speak against the sayings, or None."""
        return against(self.web(), self.sayings())

    def twin(self):
        """One with the same to take back and do again, that goes its own way."""
        found = Book(self.field)
        found.state = self.state
        found.standing = list(self.standing)
        found.undone = list(self.undone)
        return found

    def __len__(self):
        return len(self.places() + self.ties())

    def __eq__(self, other):
        return (
            isinstance(other, Book) and self.field == other.field and self.places() == other.places()
            and self.ties() == other.ties() and self.said() == other.said()
        )

    def __str__(self):
        return "\n".join([f"field {self.field}"] + [deed_text(deed) for deed in self.deeds()])

    def __repr__(self):
        return f"Book({self.field}: {len(self.places())} places, {len(self.ties())} ties)"
