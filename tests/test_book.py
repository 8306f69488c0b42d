import time
import unittest

from helpers import (
    BAD_FIELDS, FIELDS, NOUGHT, ONE, PRIMES, SOME_FIELDS, Case, agreeing, bad_numbers, led, many_webs, new_chance,
    noughts,
    number, row, table, unit, wide_even_web, widest_web,
)
from plain_book import PlainBook, chance_deed, chance_run
from stalkweb.book import Book
from stalkweb.errors import (
    BadColumn, BadDeed, BadEnd, BadField, BadRoom, BadTable, Empty, Full, NoPlace, NothingLeft, NoTie, NotSaid, Tied,
)
from stalkweb.gaps import gap
from stalkweb.kept import Kept
from stalkweb.pages import page
from stalkweb.sayings import against, goes_on
from stalkweb.texts import deed_text
from stalkweb.webs import is_web
from stalkweb.whole import free, sections

TIE = ("tie", 1, 2, 1, table(0, (2, 0)), table(0, (3,)))
LOOP = ("tie", 2, 2, 1, unit(1), unit(1))
QUESTIONS = ("web", "sayings", "free", "gap", "sections", "goes_on", "against")


def made(*deeds, field=0):
    """A book in which these deeds were done."""
    book = Book(field)
    for deed in deeds:
        book.do(deed)
    return book


def book_of(web):
    """A book with this web, deed by deed."""
    field, sizes, ties = web
    deeds = [("place", room) for room in sizes]
    return made(*deeds, *(("tie", one + 1, other + 1, *rest) for one, other, *rest in ties), field=field)


def all_of(book):
    """All that a book tells of itself."""
    return book.places(), book.ties(), book.said(), book.deeds(), len(book), str(book), repr(book), book.field


def next_numbers(book):
    """The numbers that the next place and the next tie come by."""
    twin = book.twin()
    for tie in twin.ties():
        twin.do(("cut", tie[0]))
    for place, room in twin.places():
        twin.do(("shut", place))
    place = twin.do(("place", 0))
    return place, twin.do(("tie", place, place, 0, (), ()))


class Holding(Case):
    def holds_as(self, book, plain):
        """The book is as the plain one is."""
        places, ties, said, _ = plain.told()
        self.assertEqual((book.places(), book.ties(), book.said(), book.deeds()), (places, ties, said, plain.stand))
        self.assertEqual(len(book), len(places) + len(ties))
        self.assertIs(bool(book), bool(places))
        self.assertEqual(repr(book), f"Book({plain.field}: {len(places)} places, {len(ties)} ties)")
        rows = [f"field {plain.field}"] + [deed_text(deed) for deed in plain.stand]
        self.assertEqual(str(book), "\n".join(rows))

    def stays_when_refused(self, book, kind, deed):
        """The deed is refused and changes nothing, nor what can be taken back or done again."""
        before, ahead = all_of(book), again(book)
        self.refuses(kind, book.do, deed)
        self.assertEqual(all_of(book), before)
        self.assertEqual(again(book), ahead)


def again(book):
    """All deeds that can be done again, by a twin."""
    twin, found = book.twin(), []
    while True:
        try:
            found.append(twin.redo())
        except NothingLeft:
            return found


class NewBook(Holding):
    def test_an_empty_book(self):
        for field in FIELDS:
            book = Book(field)
            self.holds_as(book, PlainBook(field))
            self.assertIs(bool(book), False)
            self.assertEqual(
                (str(book), repr(book), len(book)), (f"field {field}", f"Book({field}: 0 places, 0 ties)", 0)
            )
        self.assertEqual(Book(), Book(0))
        self.assertEqual(str(Book()), "field 0")
        self.assertEqual(str(Book(field=7)), "field 7")

    def test_no_field(self):
        for field in BAD_FIELDS:
            self.refuses(BadField, Book, field)

    def test_nothing_to_ask(self):
        for book in (Book(), Book(5), made(("place", 1), ("say", 1, row(0, 1)), ("shut", 1))):
            for name in QUESTIONS:
                self.refuses(Empty, getattr(book, name))
        book = made(("place", 1))
        self.assertEqual(book.web(), (0, (1,), ()))
        book.undo()
        for name in QUESTIONS:
            self.refuses(Empty, getattr(book, name))


class Doing(Holding):
    def test_what_is_told(self):
        book = Book()
        self.assertEqual([book.do(("place", 2)), book.do(("place", 1))], [1, 2])
        self.assertEqual([book.do(TIE), book.do(LOOP)], [1, 2])
        for deed in (
            ("say", 1, row(0, 1, 2)), ("unsay", 1), ("change", 1, 0, table(0, (5, 6))), ("cut", 2), ("cut", 1),
            ("shut", 2)
        ):
            self.assertIsNone(book.do(deed))
        self.assertEqual([book.do(("place", 0)), book.do(("tie", 1, 1, 0, (), ()))], [3, 3])

    def test_each_deed_done(self):
        book = made(("place", 2), ("place", 1), TIE, LOOP, ("say", 2, row(0, 5)), ("say", 1, row(0, (1, 2), -3)))
        self.assertEqual(book.places(), [(1, 2), (2, 1)])
        self.assertEqual(book.ties(), [(1,) + TIE[1:], (2,) + LOOP[1:]])
        self.assertEqual(book.said(), [(1, row(0, (1, 2), -3)), (2, row(0, 5))])
        self.assertEqual((len(book), repr(book)), (4, "Book(0: 2 places, 2 ties)"))
        book.do(("change", 1, 0, table(0, (7, 8))))
        book.do(("change", 1, 1, table(0, (9,))))
        self.assertEqual(book.ties()[0], (1, 1, 2, 1, table(0, (7, 8)), table(0, (9,))))
        book.do(("cut", 1))
        self.assertEqual(book.ties(), [(2,) + LOOP[1:]])
        book.do(("shut", 1))
        self.assertEqual((book.places(), book.said()), ([(2, 1)], [(2, row(0, 5))]))
        book.do(("unsay", 2))
        self.assertEqual(book.said(), [])
        self.assertEqual((len(book), bool(book)), (2, True))

    def test_no_deed(self):
        for book in (Book(), made(("place", 2), ("place", 1), TIE), made(*[("place", 0)] * 8)):
            for deed in (
                (), ("undo",), ("redo",), ("field", 0), ("Place", 1), ("", 1), ("place 1",), ("places", 1),
                ("held", 1, ()),
                ("place",), ("place", 1, 2), ("shut",), ("shut", 1, 1), ("tie",), ("tie", 1, 2, 1, ()), TIE + (1,),
                TIE[:-1],
                ("cut",), ("cut", 1, 1), ("change",), ("change", 1, 0), ("change", 1, 0, (), ()), ("say",), ("say", 1),
                ("say", 1, (), ()), ("unsay",), ("unsay", 1, ()), ("place", 9, 9), ("tie", 9, 9, 9, ()), ("say", 9),
            ):
                self.stays_when_refused(book, BadDeed, deed)

    def test_place_refused(self):
        for book in (Book(), made(*[("place", 0)] * 8)):
            for room in (-1, 4, 5, 100, -(10 ** 20), 10 ** 20):
                # A bad room goes ahead of too many places.
                self.stays_when_refused(book, BadRoom, ("place", room))
        for room in range(4):
            self.stays_when_refused(made(*[("place", 0)] * 8), Full, ("place", room))
            self.assertEqual(made(*[("place", 0)] * 7).do(("place", room)), 8)

    def test_shut_refused(self):
        book = made(("place", 2), ("place", 1), ("place", 0), TIE)
        for place in (-1, 0, 4, 10 ** 20):
            self.stays_when_refused(book, NoPlace, ("shut", place))
        self.stays_when_refused(book, Tied, ("shut", 1))
        self.stays_when_refused(book, Tied, ("shut", 2))
        self.assertIsNone(book.do(("shut", 3)))
        self.stays_when_refused(book, NoPlace, ("shut", 3))
        self.assertIsNone(book.do(("cut", 1)))
        self.assertIsNone(book.do(("shut", 1)))
        loop = made(("place", 1), ("tie", 1, 1, 1, unit(1), unit(1)))
        self.stays_when_refused(loop, Tied, ("shut", 1))

    def test_tie_refused(self):
        book = made(("place", 2), ("place", 1))
        full = made(("place", 2), ("place", 1), *[LOOP] * 12)
        good, bad_room, bad_table = TIE, TIE[:3] + (4,) + TIE[4:], TIE[:4] + ((), ())
        for each in (book, full):
            for one, other in ((0, 1), (1, 0), (3, 1), (1, 3), (-1, -1), (2, 10 ** 20)):
                for deed in (good, bad_room, bad_table):
                    self.stays_when_refused(each, NoPlace, ("tie", one, other) + deed[3:])
            for room in (-1, 4, 10 ** 20):
                for behind in (TIE[4:], ((), ()), (unit(4), unit(4))):
                    self.stays_when_refused(each, BadRoom, ("tie", 1, 2, room) + behind)
            first, second = TIE[4:]
            for tables in (
                ((), second), (first, ()), (second, second), (first, first), (first * 2, second), (first, second * 2),
                (((),), second),
                (first, ((),)), (table(0, (1, 2, 3)), second), (first, table(0, (1, 2))),
            ):
                self.stays_when_refused(each, BadTable, ("tie", 1, 2, 1) + tables)
            for bad in bad_numbers(0) + [(100, 1), (-100, 1), (1, 100), (10 ** 50, 1)]:
                self.stays_when_refused(each, BadTable, ("tie", 1, 2, 1, ((ONE, bad),), second))
                self.stays_when_refused(each, BadTable, ("tie", 1, 2, 1, first, ((bad,),)))
        self.stays_when_refused(full, Full, good)
        self.stays_when_refused(full, Full, LOOP)
        self.stays_when_refused(full, Full, ("tie", 1, 1, 0, (), ()))
        self.assertEqual(made(("place", 2), ("place", 1), *[LOOP] * 11).do(good), 12)

    def test_a_tie_with_rows_of_unlike_length(self):
        book = made(("place", 2))
        for lines in (
            (row(0, 1, 2), row(0, 1)), (row(0, 1), row(0, 1, 2)), (row(0, 1, 2), ()), (row(0, 1, 2), row(0, 1, 2, 3))
        ):
            self.stays_when_refused(book, BadTable, ("tie", 1, 1, 2, lines, unit(2)))
            self.stays_when_refused(book, BadTable, ("tie", 1, 1, 2, unit(2), lines))

    def test_cut_refused(self):
        book = made(("place", 2), ("place", 1), TIE, LOOP, ("cut", 1))
        for tie in (-1, 0, 1, 3, 10 ** 20):
            self.stays_when_refused(book, NoTie, ("cut", tie))
        self.assertIsNone(book.do(("cut", 2)))

    def test_change_refused(self):
        book = made(("place", 2), ("place", 1), TIE, LOOP, ("cut", 2))
        for tie in (-1, 0, 2, 3, 10 ** 20):
            for end in (0, 1, 2, -1):
                for lines in (TIE[4], (), (((2, 2),),)):
                    self.stays_when_refused(book, NoTie, ("change", tie, end, lines))
        for end in (-1, 2, 3, 10 ** 20):
            for lines in (TIE[4], TIE[5], (), (((2, 2),),)):
                self.stays_when_refused(book, BadEnd, ("change", 1, end, lines))
        # Each end has a room of its own.
        for end, good, other in ((0, TIE[4], TIE[5]), (1, TIE[5], TIE[4])):
            for lines in (other, (), good * 2, ((),), good + ((),)):
                self.stays_when_refused(book, BadTable, ("change", 1, end, lines))
            for bad in bad_numbers(0) + [(100, 1), (-100, 1), (1, 100)]:
                self.stays_when_refused(book, BadTable, ("change", 1, end, (good[0][:-1] + (bad,),)))
            self.assertIsNone(book.do(("change", 1, end, good)))

    def test_say_refused(self):
        book = made(("place", 2), ("place", 0), ("say", 1, row(0, 3, 4)))
        for place in (-1, 0, 3, 10 ** 20):
            for column in (row(0, 1, 2), (), ((2, 2),)):
                self.stays_when_refused(book, NoPlace, ("say", place, column))
        for column in ((), row(0, 1), row(0, 1, 2, 3)):
            self.stays_when_refused(book, BadColumn, ("say", 1, column))
        self.stays_when_refused(book, BadColumn, ("say", 2, row(0, 1)))
        for bad in bad_numbers(0) + [(100, 1), (-100, 1), (1, 100), (10 ** 50, 1), (1, 10 ** 50)]:
            self.stays_when_refused(book, BadColumn, ("say", 1, (bad, ONE)))
            self.stays_when_refused(book, BadColumn, ("say", 1, (ONE, bad)))
        self.assertIsNone(book.do(("say", 2, ())))
        self.assertEqual(book.said(), [(1, row(0, 3, 4)), (2, ())])

    def test_unsay_refused(self):
        book = made(("place", 2), ("place", 0), ("say", 1, row(0, 3, 4)))
        for place in (-1, 0, 3, 10 ** 20):
            self.stays_when_refused(book, NoPlace, ("unsay", place))
        self.stays_when_refused(book, NotSaid, ("unsay", 2))
        self.assertIsNone(book.do(("unsay", 1)))
        self.stays_when_refused(book, NotSaid, ("unsay", 1))

    def test_refused_deeds_let_nothing_go(self):
        book = made(("place", 1), ("say", 1, row(0, 1)), ("place", 2))
        book.undo()
        book.undo()
        for kind, deed in (
            (BadDeed, ()), (BadDeed, ("undo",)), (BadRoom, ("place", 7)), (NoPlace, ("shut", 2)), (NoTie, ("cut", 1)),
            (NoTie, ("change", 1, 0, ())), (BadColumn, ("say", 1, ())), (NotSaid, ("unsay", 1)),
            (BadTable, ("tie", 1, 1, 1, (), ())),
        ):
            self.stays_when_refused(book, kind, deed)
        self.assertEqual([book.redo(), book.redo()], [("say", 1, row(0, 1)), ("place", 2)])

    def test_numbers_go_on_and_never_come_twice(self):
        book = Book()
        for at in range(1, 30):
            self.assertEqual(book.do(("place", 1)), at)
            self.assertEqual(book.do(("tie", at, at, 1, unit(1), unit(1))), at)
            self.refuses(BadRoom, book.do, ("place", 4))
            self.refuses(BadTable, book.do, ("tie", at, at, 1, (), ()))
            if at % 3:
                book.do(("cut", at))
                book.do(("shut", at))
            if len(book.places()) == 8:
                break
        self.assertEqual(book.places(), [(at, 1) for at in (3, 6, 9, 12, 15, 18, 21, 24)])
        self.assertEqual([tie[:3] for tie in book.ties()], [(at, at, at) for at in (3, 6, 9, 12, 15, 18, 21, 24)])
        self.refuses(Full, book.do, ("place", 1))
        book.do(("cut", 9))
        book.do(("shut", 9))
        self.assertEqual(book.do(("place", 3)), 25)
        self.assertEqual(book.do(("tie", 25, 25, 3, unit(3), unit(3))), 25)

    def test_full_and_let_again(self):
        book = made(*[("place", 1)] * 8)
        self.refuses(Full, book.do, ("place", 1))
        book.do(("shut", 4))
        self.assertEqual(book.do(("place", 1)), 9)
        self.refuses(Full, book.do, ("place", 1))
        tie = ("tie", 9, 1, 1, unit(1), unit(1))
        self.assertEqual([book.do(tie) for _ in range(12)], list(range(1, 13)))
        self.refuses(Full, book.do, tie)
        book.do(("cut", 12))
        self.assertEqual(book.do(tie), 13)
        self.refuses(Full, book.do, tie)
        book.undo()
        self.assertEqual(book.do(tie), 13)

    def test_what_was_said_goes_with_its_place_and_comes_again(self):
        book = made(("place", 1), ("place", 2), ("say", 2, row(0, 1, 2)), ("say", 1, row(0, 3)), ("shut", 2))
        self.assertEqual(book.said(), [(1, row(0, 3))])
        # The next place has nothing said of it.
        book.do(("place", 2))
        self.assertEqual(book.said(), [(1, row(0, 3))])
        self.refuses(NotSaid, book.do, ("unsay", 3))
        book.undo()
        book.undo()
        self.assertEqual(book.said(), [(1, row(0, 3)), (2, row(0, 1, 2))])
        book.redo()
        self.assertEqual(book.said(), [(1, row(0, 3))])

    def test_say_twice_of_one_place(self):
        book = made(("place", 1), ("say", 1, row(0, 3)), ("say", 1, row(0, 4)))
        self.assertEqual(book.said(), [(1, row(0, 4))])
        book.undo()
        self.assertEqual(book.said(), [(1, row(0, 3))])
        book.redo()
        book.do(("unsay", 1))
        self.assertEqual(book.said(), [])
        book.undo()
        self.assertEqual(book.said(), [(1, row(0, 4))])

    def test_numbers_at_the_bounds_and_beyond(self):
        book = made(("place", 1))
        for pair, good in (
            ((99, 1), True), ((-99, 1), True), ((100, 1), False), ((-100, 1), False), ((1, 99), True), ((98, 99), True),
            ((1, 100), False), ((101, 99), False), ((99, 98), True), ((2, 4), False), ((1, 0), False), ((0, 1), True),
            ((0, 3), False),
        ):
            deeds = (
                (BadColumn, ("say", 1, (pair,))), (BadTable, ("tie", 1, 1, 1, ((pair,),), unit(1))),
                (BadTable, ("tie", 1, 1, 1, unit(1), ((pair,),))),
            )
            for kind, deed in deeds:
                if good:
                    book.do(deed)
                    book.undo()
                else:
                    self.stays_when_refused(book, kind, deed)

    def test_numbers_by_a_prime(self):
        for prime in PRIMES:
            book = made(("place", 1), field=prime)
            for bad in bad_numbers(prime) + [(prime, 1), (prime + 1, 1)]:
                self.stays_when_refused(book, BadColumn, ("say", 1, (bad,)))
                self.stays_when_refused(book, BadTable, ("tie", 1, 1, 1, ((bad,),), unit(1)))
                self.stays_when_refused(book, BadTable, ("tie", 1, 1, 1, unit(1), ((bad,),)))
            book.do(("say", 1, ((prime - 1, 1),)))
            book.do(("tie", 1, 1, 1, (((prime - 1, 1),),), unit(1)))
            self.stays_when_refused(book, BadTable, ("change", 1, 0, (((prime, 1),),)))

    def test_a_tie_of_a_place_with_itself(self):
        book = made(("place", 2), ("tie", 1, 1, 2, unit(2), table(0, (0, 1), (1, 0))))
        self.assertEqual(book.ties(), [(1, 1, 1, 2, unit(2), table(0, (0, 1), (1, 0)))])
        self.assertEqual(book.web(), (0, (2,), ((0, 0, 2, unit(2), table(0, (0, 1), (1, 0))),)))
        self.assertEqual(book.sections(), [[row(0, 1, 1)]])
        self.refuses(Tied, book.do, ("shut", 1))


class ChanceRuns(Holding):
    def test_against_a_plain_book(self):
        chance = new_chance(281)
        kinds = {}
        for field in SOME_FIELDS:
            for _ in range(4):
                book, plain = Book(field), PlainBook(field)
                for _ in range(120):
                    self.one_step(chance, book, plain, kinds)
                    self.holds_as(book, plain)
        for kind in (BadRoom, Full, NoPlace, Tied, BadTable, NoTie, BadEnd, BadColumn, NotSaid, NothingLeft):
            self.assertGreater(kinds.get(kind, 0), 0, kind)

    def one_step(self, chance, book, plain, kinds):
        if chance.random() < 0.3:
            word = chance.choice(("undo", "undo", "redo"))
            told = plain.step(word)
            if told is NothingLeft:
                self.refuses(NothingLeft, getattr(book, word))
                kinds[NothingLeft] = kinds.get(NothingLeft, 0) + 1
            else:
                self.assertEqual(getattr(book, word)(), told)
            return
        deed = chance_deed(chance, plain)
        kind = plain.refusal(deed)
        if kind is not None:
            kinds[kind] = kinds.get(kind, 0) + 1
            self.stays_when_refused(book, kind, deed)
            return
        number = plain.do(deed)
        told = book.do(deed)
        if deed[0] in ("place", "tie"):
            self.assertIs(told.__class__, int)
            self.assertEqual(told, number)
        else:
            self.assertIsNone(told)

    def test_places_and_ties_numbered_anew(self):
        chance = new_chance(282)
        astray = 0
        for field in SOME_FIELDS:
            for _ in range(12):
                plain = chance_run(chance, field, 25, (0, 1, 2))
                book = made(*plain.stand, field=field)
                if plain.web() is Empty:
                    self.refuses(Empty, book.web)
                    continue
                web, sayings = book.web(), book.sayings()
                self.assertIs(is_web(web), True)
                self.assertEqual((web, sayings), (plain.web(), plain.sayings()))
                self.assertEqual((book.free(), book.gap(), book.sections()), (free(web), gap(web), sections(web)))
                self.assertEqual(book.goes_on(), goes_on(web, sayings))
                self.assertEqual(book.against(), against(web, sayings))
                self.assertEqual([book.goes_on(), book.against()].count(None), 1)
                astray += [number for number, room in book.places()] != list(range(1, len(web[1]) + 1))
        self.assertGreater(astray, 10)


class TakenBack(Holding):
    def test_nothing_left(self):
        book = Book()
        for word in ("undo", "redo"):
            self.refuses(NothingLeft, getattr(book, word))
        book.do(("place", 1))
        self.refuses(NothingLeft, book.redo)
        self.assertEqual(book.undo(), ("place", 1))
        self.refuses(NothingLeft, book.undo)
        self.assertEqual(book.redo(), ("place", 1))
        self.refuses(NothingLeft, book.redo)
        self.assertEqual(book.places(), [(1, 1)])

    def test_all_taken_back_and_all_done_again(self):
        chance = new_chance(283)
        for field in SOME_FIELDS:
            plain = PlainBook(field)
            while len(plain.stand) < 45:
                deed = chance_deed(chance, plain)
                if plain.refusal(deed) is None:
                    plain.do(deed)
            book = Book(field)
            stages = [(all_of(book), next_numbers(book))]
            for deed in plain.stand:
                book.do(deed)
                stages.append((all_of(book), next_numbers(book)))
            webs = [] if plain.web() is Empty else [book.web(), book.sections()]
            for at in range(len(plain.stand), 0, -1):
                self.assertEqual((all_of(book), next_numbers(book)), stages[at])
                self.assertEqual(book.undo(), plain.stand[at - 1])
            self.assertEqual((all_of(book), next_numbers(book)), stages[0])
            self.refuses(NothingLeft, book.undo)
            for at, deed in enumerate(plain.stand):
                self.assertEqual((all_of(book), next_numbers(book)), stages[at])
                self.assertEqual(book.redo(), deed)
            self.assertEqual((all_of(book), next_numbers(book)), stages[-1])
            self.refuses(NothingLeft, book.redo)
            if webs:
                self.assertEqual([book.web(), book.sections()], webs)

    def test_numbers_too(self):
        book = made(("place", 1))
        self.assertEqual(book.do(("place", 1)), 2)
        book.undo()
        self.assertEqual(book.do(("place", 3)), 2)
        tie = ("tie", 1, 1, 0, (), ())
        self.assertEqual([book.do(tie), book.do(tie)], [1, 2])
        book.undo()
        book.undo()
        self.assertEqual(book.do(tie), 1)
        # Behind a cut the numbers go on; behind a cut and a tie taken back they are as ahead of both.
        book.do(("cut", 1))
        self.assertEqual(book.do(tie), 2)
        book.undo()
        book.undo()
        self.assertEqual(book.do(tie), 2)

    def test_a_new_deed_lets_what_was_taken_back_go(self):
        book = made(("place", 1), ("place", 2))
        book.undo()
        book.do(("place", 3))
        self.refuses(NothingLeft, book.redo)
        self.assertEqual(book.places(), [(1, 1), (2, 3)])
        # Also the same deed.
        book.undo()
        book.undo()
        book.do(("place", 1))
        self.refuses(NothingLeft, book.redo)

    def test_a_question_lets_nothing_go(self):
        book = made(("place", 1), ("tie", 1, 1, 1, unit(1), unit(1)), ("say", 1, row(0, 2)))
        book.undo()
        book.undo()
        for name in QUESTIONS + ("places", "ties", "said", "deeds", "twin"):
            getattr(book, name)()
        self.assertEqual((len(book), book == book.twin(), repr(book)), (1, True, "Book(0: 1 places, 0 ties)"))
        self.assertEqual(str(book), page(book))
        self.refuses(NoTie, book.do, ("cut", 1))
        self.assertEqual([book.redo()[0], book.redo()[0]], ["tie", "say"])
        self.refuses(NothingLeft, book.redo)


class Twins(Holding):
    def test_the_same_to_take_back_and_do_again(self):
        book = made(("place", 1), ("place", 2), ("say", 1, row(0, 1)), ("shut", 2))
        book.undo()
        book.undo()
        twin = book.twin()
        self.assertIs(twin.__class__, Book)
        self.assertEqual(all_of(twin), all_of(book))
        self.assertEqual([twin.redo(), twin.redo()], [("say", 1, row(0, 1)), ("shut", 2)])
        self.refuses(NothingLeft, twin.redo)
        self.assertEqual([twin.undo()[0] for _ in range(4)], ["shut", "say", "place", "place"])
        self.refuses(NothingLeft, twin.undo)
        # None of this was the book's.
        self.assertEqual(book.places(), [(1, 1), (2, 2)])
        self.assertEqual([book.redo(), book.redo()], [("say", 1, row(0, 1)), ("shut", 2)])

    def test_each_goes_its_own_way(self):
        chance = new_chance(284)
        for field in SOME_FIELDS:
            plains = [chance_run(chance, field, 12)]
            books = [made(*plains[0].stand, field=field)]
            plains[0].back = []
            for _ in range(60):
                at = chance.randrange(len(books))
                deed = chance_deed(chance, plains[at])
                if chance.random() < 0.3:
                    word = chance.choice(("undo", "redo"))
                    told = plains[at].step(word)
                    if told is NothingLeft:
                        self.refuses(NothingLeft, getattr(books[at], word))
                    else:
                        self.assertEqual(getattr(books[at], word)(), told)
                elif plains[at].refusal(deed) is None:
                    plains[at].do(deed)
                    books[at].do(deed)
                elif len(books) < 5:
                    # Twins of twins, too.
                    books.append(books[at].twin())
                    plains.append(plains[at].twin())
                for book, plain in zip(books, plains):
                    self.holds_as(book, plain)
                    self.assertEqual(again(book), plain.back[::-1])
            self.assertEqual(len(books), 5)


class Alike(Holding):
    def test_by_places_ties_and_sayings_with_their_numbers(self):
        book = made(("place", 2), ("place", 1), TIE, ("say", 2, row(0, 1)))
        for deeds in (
            [("place", 2), ("place", 1), ("say", 2, row(0, 1)), TIE],
            [("place", 2), ("place", 1), ("say", 2, row(0, 4)), TIE, ("say", 2, row(0, 1))],
            [("place", 2), ("place", 1), TIE, LOOP, ("cut", 2), ("say", 2, row(0, 1)), ("place", 3), ("shut", 3)],
            [
                ("place", 2), ("place", 1), TIE[:4] + (unit(2)[:1], unit(1)), ("change", 1, 1, TIE[5]),
                ("change", 1, 0, TIE[4]), ("say", 2, row(0, 1))
            ],
        ):
            self.alike(book, made(*deeds), True)
        other = made(("place", 2), ("place", 1), TIE, ("say", 2, row(0, 1)), ("unsay", 2))
        self.alike(book, other, False)
        other.undo()
        self.alike(book, other, True)

    def alike(self, one, other, told):
        for here, there in ((one, other), (other, one)):
            self.assertIs(here == there, told)
            self.assertIs(here != there, not told)

    def test_bent_in_one_thing(self):
        book = made(("place", 2), ("place", 1), TIE, ("say", 2, row(0, 1)))
        for deeds in (
            [], [("place", 2)], [("place", 2), ("place", 1), TIE], [("place", 2), ("place", 1), ("say", 2, row(0, 1))],
            [("place", 2), ("place", 1), TIE, ("say", 2, row(0, 2))],
            [("place", 2), ("place", 1), TIE, ("say", 1, row(0, 1, 1))],
            [("place", 2), ("place", 1), TIE, ("say", 2, row(0, 1)), ("place", 0)],
            [("place", 2), ("place", 1), TIE, ("say", 2, row(0, 1)), ("change", 1, 1, table(0, (4,)))],
            [("place", 2), ("place", 1), TIE, ("cut", 1), TIE, ("say", 2, row(0, 1))],
            [("place", 3), ("place", 1), ("tie", 1, 2, 1, table(0, (2, 0, 0)), TIE[5]), ("say", 2, row(0, 1))],
        ):
            self.alike(book, made(*deeds), False)
        # The same web by other numbers.
        one, other = made(("place", 1)), made(("place", 1), ("shut", 1), ("place", 1))
        self.assertEqual(one.web(), other.web())
        self.alike(one, other, False)

    def test_fields_and_other_things(self):
        for field in SOME_FIELDS:
            for other in SOME_FIELDS:
                self.alike(Book(field), Book(other), field == other)
                self.alike(made(("place", 1), field=field), made(("place", 1), field=other), field == other)
        for thing in (0, None, "", "field 0", (), [], {}, Kept(0, 0), ("field", 0), Book, object()):
            self.assertIs(Book() == thing, False)
            self.assertIs(Book() != thing, True)
            self.assertIs(thing == Book(), False)

    def test_twins_are_alike(self):
        chance = new_chance(285)
        for field in SOME_FIELDS:
            book = made(*chance_run(chance, field, 20).stand, field=field)
            twin = book.twin()
            self.alike(book, twin, True)
            if book.deeds():
                twin.undo()
                self.alike(
                    book, twin, (book.places(), book.ties(), book.said()) == (twin.places(), twin.ties(), twin.said())
                )

    def test_len_and_truth(self):
        book = Book()
        counts = [(len(book), bool(book))]
        for deed in (
            ("place", 0), ("place", 1), ("tie", 2, 2, 1, unit(1), unit(1)), ("say", 2, row(0, 1)), ("cut", 1),
            ("shut", 1), ("shut", 2)
        ):
            book.do(deed)
            counts.append((len(book), bool(book)))
        self.assertEqual(
            counts, [(0, False), (1, True), (2, True), (3, True), (3, True), (2, True), (1, True), (0, False)]
        )

    def test_repr_and_str(self):
        book = made(("place", 2), ("place", 1), TIE)
        self.assertEqual(repr(book), "Book(0: 2 places, 1 ties)")
        self.assertEqual(str(book), "field 0\nplace 2\nplace 1\ntie 1 2 1 2,0 3")
        self.assertEqual(f"{book}", page(book))
        self.assertEqual(repr(Book(97)), "Book(97: 0 places, 0 ties)")


class Asked(Holding):
    def test_told_answers(self):
        book = made(("place", 1), ("place", 1), ("place", 2), ("shut", 1), ("place", 1))
        book.do(("tie", 4, 2, 1, table(0, (2,)), unit(1)))
        book.do(("say", 4, row(0, 3)))
        self.assertEqual(book.web(), (0, (1, 2, 1), ((2, 0, 1, table(0, (2,)), unit(1)),)))
        self.assertEqual(book.sayings(), [(2, row(0, 3))])
        self.assertEqual((book.free(), book.gap()), (3, 0))
        self.assertEqual(book.sections()[0], [row(0, 0), row(0, 1, 0), row(0, 0)])
        self.assertEqual(book.goes_on(), [row(0, 6), noughts(2), row(0, 3)])
        self.assertIsNone(book.against())
        book.do(("say", 2, row(0, 5)))
        self.assertEqual(book.sayings(), [(0, row(0, 5)), (2, row(0, 3))])
        self.assertIsNone(book.goes_on())
        self.assertEqual(book.against(), [row(0, -1)])
        # Five less six is not nought; with this weight it is one.
        self.assertEqual(led(0, [row(0, 1, -2)], row(0, 5, 3)), row(0, -1))

    def test_webs_deed_by_deed(self):
        for web in many_webs(286):
            book = book_of(web)
            self.assertEqual(book.web(), web)
            self.assertEqual((book.free(), book.gap()), (free(web), gap(web)))
            self.assertEqual(book.sections(), sections(web))
            self.assertEqual(book.sayings(), [])
            self.assertEqual(book.goes_on(), goes_on(web, []))
            self.assertIsNone(book.against())

    def test_eight_places_and_twelve_ties_of_room_three(self):
        chance = new_chance(287)
        start = time.perf_counter()
        for field in SOME_FIELDS:
            for web in (widest_web(chance, field), wide_even_web(field)):
                book = book_of(web)
                self.assertEqual(book.web(), web)
                book.do(("say", 3, row(field, 1, 0, 1)))
                self.assertEqual([book.goes_on(), book.against()].count(None), 1)
                if book.goes_on() is not None:
                    self.assertTrue(agreeing(web, book.goes_on()))
                self.assertEqual(len(book.sections()), book.free())
                self.refuses(Full, book.do, ("place", 1))
        self.assertLess(time.perf_counter() - start, 20)


class HandedInAndTold(Holding):
    def test_changing_a_told_list_changes_no_later_answer(self):
        book = made(("place", 1), ("place", 1), ("tie", 1, 2, 1, unit(1), unit(1)), ("say", 1, row(0, 1)))
        names = ("deeds", "places", "ties", "said", "sayings", "sections", "goes_on")
        self.answers_stay(*[getattr(book, name) for name in names], lambda: book.sections()[0])
        book.do(("say", 2, row(0, 2)))
        self.answers_stay(book.against)
        twin = book.twin()
        for name in names[:-1]:
            getattr(twin, name)().clear()
        self.assertEqual(all_of(twin), all_of(book))

    def test_books_made_apart_have_nothing_to_do_with_one_another(self):
        one, other = Book(), Book()
        one.do(("place", 1))
        self.assertEqual((other.places(), other.deeds()), ([], []))
        other.do(("place", 2))
        self.assertEqual((one.places(), other.places()), ([(1, 1)], [(1, 2)]))
        one.undo()
        self.assertEqual(other.deeds(), [("place", 2)])
        self.refuses(NothingLeft, other.redo)

    def test_told_kinds(self):
        book = made(("place", 1), ("tie", 1, 1, 1, unit(1), unit(1)), ("say", 1, (number(0, 1, 2),)))
        for name in ("deeds", "places", "ties", "said"):
            told = getattr(book, name)()
            self.assertIs(told.__class__, list)
            self.assertTrue(all(thing.__class__ is tuple for thing in told))
        self.assertEqual([len(pair) for pair in book.places() + book.said() + book.sayings()], [2, 2, 2])
        self.assertEqual([len(tie) for tie in book.ties()], [6])
        self.assertIs(book.web().__class__, tuple)
        self.assertEqual(book.said(), [(1, ((1, 2),))])
        self.assertEqual(noughts(1), (NOUGHT,))

    def test_by_name(self):
        book = Book(field=5)
        self.assertEqual(book.do(deed=("place", 1)), 1)
        self.assertEqual(str(book), "field 5\nplace 1")


if __name__ == "__main__":
    unittest.main()
