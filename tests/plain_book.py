"""A book by a way of its own: it keeps deeds alone and goes through them anew for each answer; and chance deeds."""

from math import gcd

from helpers import bad_numbers, chance_rows, chance_table
from stalkweb.errors import (
    BadColumn, BadDeed, BadEnd, BadRoom, BadTable, Empty, Full, NoPlace, NothingLeft, NoTie, NotSaid, Tied,
)

COUNTS = {"place": 1, "shut": 1, "tie": 5, "cut": 1, "change": 3, "say": 2, "unsay": 1}


def is_bounded(field, pair):
    top, bottom = pair
    if field:
        return 0 <= top < field and bottom == 1
    return -99 <= top <= 99 and 1 <= bottom <= 99 and gcd(top, bottom) == 1


def fits_rooms(field, lines, room, length):
    return len(lines) == room and all(
        len(line) == length and all(is_bounded(field, pair) for pair in line) for line in lines
    )


class PlainBook:
    def __init__(self, field=0):
        self.field, self.stand, self.back = field, [], []

    def told(self):
        """Places, ties and sayings by their numbers, as lists, and the number of the last new place or tie."""
        places, ties, said, numbers, last = {}, {}, {}, {"place": 0, "tie": 0}, None
        for word, *things in self.stand:
            last = None
            if word in numbers:
                numbers[word] += 1
                last = numbers[word]
                (places if word == "place" else ties)[last] = things[0] if word == "place" else tuple(things)
            elif word == "shut":
                del places[things[0]]
                said.pop(things[0], None)
            elif word == "cut":
                del ties[things[0]]
            elif word == "change":
                tie = list(ties[things[0]])
                tie[3 + things[1]] = things[2]
                ties[things[0]] = tuple(tie)
            elif word == "say":
                said[things[0]] = things[1]
            else:
                del said[things[0]]
        rows = [(number, *tie) for number, tie in sorted(ties.items())]
        return sorted(places.items()), rows, sorted(said.items()), last

    def refusal(self, deed):
        """The class that the deed is refused with, or None."""
        if len(deed) == 0 or deed[0] not in COUNTS or len(deed) - 1 != COUNTS[deed[0]]:
            return BadDeed
        places, ties, said, _ = self.told()
        judge = getattr(self, "judge_" + deed[0])
        return judge(dict(places), {tie[0]: tie[1:] for tie in ties}, dict(said), *deed[1:])

    def judge_place(self, places, ties, said, room):
        if room not in range(4):
            return BadRoom
        return Full if len(places) == 8 else None

    def judge_shut(self, places, ties, said, place):
        if place not in places:
            return NoPlace
        return Tied if [1 for tie in ties.values() if place in (tie[0], tie[1])] else None

    def judge_tie(self, places, ties, said, one, other, room, first, second):
        if one not in places or other not in places:
            return NoPlace
        if room not in range(4):
            return BadRoom
        for lines, place in ((first, one), (second, other)):
            if not fits_rooms(self.field, lines, room, places[place]):
                return BadTable
        return Full if len(ties) == 12 else None

    def judge_cut(self, places, ties, said, tie):
        return None if tie in ties else NoTie

    def judge_change(self, places, ties, said, tie, end, lines):
        if tie not in ties:
            return NoTie
        if end not in (0, 1):
            return BadEnd
        return None if fits_rooms(self.field, lines, ties[tie][2], places[ties[tie][end]]) else BadTable

    def judge_say(self, places, ties, said, place, column):
        if place not in places:
            return NoPlace
        return None if fits_rooms(self.field, [column], 1, places[place]) else BadColumn

    def judge_unsay(self, places, ties, said, place):
        if place not in places:
            return NoPlace
        return None if place in said else NotSaid

    def do(self, deed):
        """The deed is done; the number of a new place or tie."""
        assert self.refusal(deed) is None
        self.stand.append(deed)
        self.back = []
        return self.told()[3]

    def step(self, word):
        """The deed that is taken back or done again, or the refusal."""
        taken, put = (self.stand, self.back) if word == "undo" else (self.back, self.stand)
        if not taken:
            return NothingLeft
        put.append(taken.pop())
        return put[-1]

    def twin(self):
        found = PlainBook(self.field)
        found.stand, found.back = list(self.stand), list(self.back)
        return found

    def web(self):
        """The web with places and ties numbered anew, or the refusal."""
        places, ties, said, _ = self.told()
        if not places:
            return Empty
        order = [number for number, room in places]
        inner = tuple((order.index(one), order.index(other), *rest) for _, one, other, *rest in ties)
        return (self.field, tuple(room for number, room in places), inner)

    def sayings(self):
        places, ties, said, _ = self.told()
        order = [number for number, room in places]
        return [(order.index(place), column) for place, column in said] if places else Empty


def one_of(chance, numbers, astray=0.12):
    """One of the numbers, or now and then one that is none of them."""
    if not numbers or chance.random() < astray:
        return chance.choice((0, -1, 1, 2, 5, 50, 9999, max(numbers, default=0) + 1))
    return chance.choice(numbers)


def chance_lines(chance, field, room, length, astray=0.1):
    """A table of these rooms, or now and then one that is none."""
    if chance.random() < astray:
        room, length = room + chance.choice((-1, 0, 1)), length + chance.choice((-1, 0, 1))
    found = [list(line) for line in chance_table(chance, field, max(room, 0), max(length, 0), chance.choice((1, 1, 2)))]
    if found and found[0] and chance.random() < astray:
        found[-1][0] = chance.choice(bad_numbers(field) + [(100, 1), (-100, 1), (1, 100)])
    return tuple(tuple(line) for line in found)


def chance_deed(chance, plain, rooms=(0, 1, 2, 3)):
    """A deed that mostly can be done now."""
    places, ties, said, _ = plain.told()
    sizes, standing = dict(places), {tie[0]: tie[1:] for tie in ties}
    word = chance.choice(("place",) * 3 + ("tie",) * 5 + ("say",) * 3 + ("change",) * 2 + ("shut", "cut", "unsay"))
    place, other = one_of(chance, list(sizes)), one_of(chance, list(sizes))
    tie = one_of(chance, list(standing))
    room = chance.choice(rooms) if chance.random() < 0.95 else chance.choice((-1, 4, 100))
    if word == "place":
        return ("place", room)
    if word == "tie":
        first = chance_lines(chance, plain.field, room, sizes.get(place, 1))
        return ("tie", place, other, room, first, chance_lines(chance, plain.field, room, sizes.get(other, 1)))
    if word == "say":
        length = max(0, sizes.get(place, 1) + (chance.choice((-1, 1)) if chance.random() < 0.1 else 0))
        return ("say", place, chance_rows(chance, plain.field, 1, length, chance.choice((1, 2)))[0])
    if word == "change":
        end = chance.choice((0, 1)) if chance.random() < 0.95 else chance.choice((-1, 2, 7))
        one, two, size = standing.get(tie, (place, other, 1))[:3]
        return ("change", tie, end, chance_lines(chance, plain.field, size, sizes.get(two if end == 1 else one, 1)))
    return (word, {"shut": place, "cut": tie, "unsay": one_of(chance, [number for number, column in said])}[word])


def chance_run(chance, field, count, rooms=(0, 1, 2, 3)):
    """A plain book behind so many chance deeds, refused ones left out, some taken back."""
    plain = PlainBook(field)
    for _ in range(count):
        deed = chance_deed(chance, plain, rooms)
        if plain.refusal(deed) is None:
            plain.do(deed)
        if chance.random() < 0.15:
            plain.step(chance.choice(("undo", "undo", "redo")))
    return plain
