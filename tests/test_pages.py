import unittest

from helpers import BAD_FIELDS, FIELDS, PRIMES, SOME_FIELDS, Case, new_chance, row, table, unit
from plain_book import PlainBook, chance_deed, chance_run
from stalkweb.book import Book
from stalkweb.errors import BadText, NothingLeft
from stalkweb.pages import page, read_page
from stalkweb.texts import deed_text

TOLD = "field 0\nplace 2\nplace 1\ntie 1 2 1 2,0 -1/3\nsay 1 5,-1/2\nchange 1 1 4\nsay 2 *\nunsay 1\ncut 1\nshut 1"
# The seventh row says a column without numbers of a place of room 1; all the others can be done.
GOOD = TOLD.replace("say 2 *", "say 2 7")


def made(rows, field=0):
    book = Book(field)
    for deed in rows:
        book.do(deed)
    return book


class Pages(Case):
    def test_told_pages(self):
        self.assertEqual(page(Book()), "field 0")
        self.assertEqual(page(Book(97)), "field 97")
        deeds = [
            ("place", 2), ("place", 1), ("tie", 1, 2, 1, table(0, (2, 0)), table(0, ((-1, 3),))),
            ("say", 1, row(0, 5, (-1, 2))),
            ("change", 1, 1, table(0, (4,))), ("say", 2, row(0, 7)), ("unsay", 1), ("cut", 1), ("shut", 1),
        ]
        book = made(deeds)
        self.assertEqual(page(book), GOOD)
        book.undo()
        book.undo()
        self.assertEqual(page(book), GOOD.rsplit("\n", 2)[0])
        told = read_page(GOOD)
        self.assertIs(told.__class__, Book)
        self.assertEqual(told.deeds(), deeds)

    def test_each_field(self):
        for field in FIELDS:
            self.assertEqual(repr(read_page(f"field {field}")), f"Book({field}: 0 places, 0 ties)")
            self.assertEqual(page(read_page(f"field {field}\nplace 1")), f"field {field}\nplace 1")

    def test_there_and_back_with_deeds_taken_back_in_between(self):
        chance = new_chance(291)
        for field in SOME_FIELDS:
            for count in (0, 3, 20, 60):
                plain = chance_run(chance, field, count)
                book = made(plain.stand, field)
                text = page(book)
                self.assertEqual(text, "\n".join([f"field {field}"] + [deed_text(deed) for deed in plain.stand]))
                self.assertEqual(text, str(book))
                told = read_page(text)
                self.assertEqual(told, book)
                self.assertEqual((told.deeds(), page(told)), (book.deeds(), text))
                # Nothing to do again, and all to take back to the first deed.
                self.refuses(NothingLeft, told.redo)
                self.assertEqual([told.undo() for _ in plain.stand], plain.stand[::-1])
                self.refuses(NothingLeft, told.undo)
                self.assertEqual(told, Book(field))

    def test_numbers_go_on_as_in_the_book(self):
        book = made([("place", 1), ("place", 1), ("shut", 2), ("tie", 1, 1, 1, unit(1), unit(1)), ("cut", 1)])
        told = read_page(page(book))
        self.assertEqual([each.do(("place", 0)) for each in (book, told)], [3, 3])
        self.assertEqual([each.do(("tie", 3, 3, 0, (), ())) for each in (book, told)], [2, 2])
        book.undo()
        self.assertEqual(read_page(page(book)).do(("tie", 3, 3, 0, (), ())), 2)

    def test_each_goes_its_own_way(self):
        book = made([("place", 1), ("place", 2)])
        told, again = read_page(page(book)), read_page(page(book))
        told.do(("shut", 1))
        again.undo()
        self.assertEqual([each.places() for each in (book, told, again)], [[(1, 1), (2, 2)], [(2, 2)], [(1, 1)]])

    def test_what_can_be_done_again_is_not_on_the_page(self):
        book = made([("place", 1), ("place", 2)])
        book.undo()
        self.assertEqual(page(book), "field 0\nplace 1")
        page(book)
        self.assertEqual(book.redo(), ("place", 2))


class Faults(Case):
    def bad(self, text, at):
        self.refuses(BadText, read_page, text, row=at)

    def test_the_first_row(self):
        for first in (
            "", " ", "field", "field ", "field 4", "field 1", "field 98", "field 100", "field 101", "field 9973",
            "field -1", "field -7", "field 00",
            "field 07", "field 007", "field +7", "field 7 ", " field 7", "field  7", "field 7 7", "Field 7",
            "FIELD 7", "fields 7", "place 1", "7", "0",
            "field x", "field 7/1", "field 7.", "field 10007", "field 0000", "field *", "book 7", "field\t7",
            "field,7", "field7", "field 1_1",
        ):
            self.bad(first, 0)
            self.bad(first + "\nplace 1", 0)
            self.bad(first + "\nx", 0)
            self.bad(first + "\n", 0)
        for field in BAD_FIELDS:
            self.bad(f"field {field}", 0)
        self.bad("\nfield 0", 0)
        self.bad("\n", 0)

    def test_form_of_each_row(self):
        rows = GOOD.split("\n")
        for at in range(1, len(rows)):
            for bad in (
                "", " ", "x", rows[at] + " ", " " + rows[at], rows[at].replace(" ", "  ", 1), rows[at].upper(),
                rows[at] + ",", rows[at] + " 1", "field 0",
                rows[at] + "!", "undo", "places", "say 1 01", "place 02", "say 1 2/4", "say 1 1/0",
            ):
                self.bad("\n".join(rows[:at] + [bad] + rows[at + 1:]), at)
                self.bad("\n".join(rows[:at] + [bad]), at)

    def test_a_refused_deed_of_each_kind(self):
        for text, at in (
            ("place 4", 1), ("place 9999", 1), ("shut 1", 1), ("cut 1", 1), ("unsay 1", 1), ("say 1 1", 1),
            ("change 1 0 1", 1), ("tie 1 1 0 # #", 1),
            ("\n".join(["place 0"] * 9), 9), ("place 1\ntie 1 1 1 1 1\nshut 1", 3),
            ("place 1\ntie 1 1 4 1;1;1;1 1;1;1;1", 2),
            ("place 1\ntie 1 1 1 1 1,1", 2), ("place 1\n" + "\n".join(["tie 1 1 0 # #"] * 13), 14),
            ("place 1\ntie 1 1 1 1 1\nchange 1 2 1", 3),
            ("place 1\ntie 1 1 1 1 1\nchange 1 1 1,1", 3), ("place 1\nsay 1 1,1", 2), ("place 1\nsay 1 *", 2),
            ("place 1\nunsay 1", 2),
            ("place 2\ntie 1 1 2 1,0;0 1,0;0,1", 2), ("place 1\nshut 1\nshut 1", 3), ("place 1\nshut 2", 2),
        ):
            self.bad("field 0\n" + text, at)
            self.bad("field 0\n" + text + "\nplace 1", at)
            # Also ahead of a fault of form.
            self.bad("field 0\n" + text + "\nx", at)
            self.bad("field 0\n" + text + "\n", at)
        self.bad(TOLD, 6)

    def test_a_fault_of_form_ahead_of_a_refused_deed(self):
        self.bad("field 0\nplace 1\nx\nshut 7", 2)
        self.bad("field 0\nplace 1\nshut 7\nx", 2)
        self.bad("field 0\n\nshut 7", 1)
        self.bad("field 4\nshut 7", 0)

    def test_by_a_prime(self):
        for prime in PRIMES:
            self.bad(f"field {prime}\nplace 1\nsay 1 -1", 2)
            self.bad(f"field {prime}\nplace 1\nsay 1 1/2", 2)
            self.bad(f"field {prime}\nplace 1\nsay 1 {prime}", 2)
            self.bad(f"field {prime}\nplace 1\ntie 1 1 1 {prime} 0", 2)
            self.assertEqual(read_page(f"field {prime}\nplace 1\nsay 1 {prime - 1}").said(), [(1, ((prime - 1, 1),))])

    def test_a_line_feed_at_the_end(self):
        rows = GOOD.split("\n")
        for many in range(1, len(rows) + 1):
            self.bad("\n".join(rows[:many]) + "\n", many)
            self.bad("\n".join(rows[:many]) + "\n\n", many)

    def test_rows_out_twice_and_exchanged(self):
        chance = new_chance(292)
        good = faulty = 0
        for _ in range(60):
            field = chance.choice(SOME_FIELDS)
            rows = [f"field {field}"] + [deed_text(deed) for deed in chance_run(chance, field, 15).stand]
            deeds = {text: deed for text, deed in zip(rows[1:], made_deeds(rows))}
            for _ in range(6):
                changed = list(rows)
                at, other = chance.randrange(len(rows)), chance.randrange(len(rows))
                kind = chance.choice(("out", "twice", "exchanged"))
                if kind == "out":
                    del changed[at]
                elif kind == "twice":
                    changed.insert(other, changed[at])
                else:
                    changed[at], changed[other] = changed[other], changed[at]
                fault = first_fault(changed, deeds)
                if fault is None:
                    self.assertEqual(page(read_page("\n".join(changed))), "\n".join(changed))
                    good += 1
                else:
                    self.bad("\n".join(changed), fault)
                    faulty += 1
        self.assertGreater(good, 50)
        self.assertGreater(faulty, 50)

    def test_long_pages(self):
        rows = ["field 0"] + ["place 0", "shut {}"] * 1000
        text = "\n".join(line.format(at // 2) for at, line in enumerate(rows, start=1))
        self.assertLess(len(text), 20000)
        book = read_page(text)
        self.assertEqual((book.places(), len(book.deeds()), book.do(("place", 1))), ([], 2000, 1001))
        self.assertEqual(page(read_page(text)), text)
        self.bad(text + "\nshut 1000", 2001)

    def test_a_refused_text_leaves_nothing_behind(self):
        self.bad("field 0\nplace 1\nshut 7", 2)
        self.assertEqual(read_page("field 0\nplace 1").do(("place", 1)), 2)


def made_deeds(rows):
    return read_page("\n".join(rows)).deeds()


def first_fault(rows, deeds):
    """The first row at fault, by a plain book, or None."""
    if not rows or not rows[0].startswith("field "):
        return 0
    plain = PlainBook(int(rows[0][6:]))
    for at, text in enumerate(rows[1:], start=1):
        if text not in deeds or plain.refusal(deeds[text]) is not None:
            return at
        plain.do(deeds[text])
    return None


class Names(Case):
    def test_by_name(self):
        self.assertEqual(page(book=Book(3)), "field 3")
        self.assertEqual(read_page(text="field 3"), Book(3))

    def test_chance_deeds_refused_at_their_row(self):
        chance = new_chance(293)
        for field in SOME_FIELDS:
            for _ in range(30):
                plain = chance_run(chance, field, 10)
                deed = chance_deed(chance, plain)
                whole = [thing for thing in deed[1:] if isinstance(thing, int)]
                if min(whole) < 0 or not all(pair[1] > 0 for pair in pairs_of(deed)):
                    # Such a deed has no text.
                    continue
                text = "\n".join([page(made(plain.stand, field)), deed_text(deed)])
                if plain.refusal(deed) is None:
                    self.assertEqual(read_page(text).deeds(), plain.stand + [deed])
                else:
                    self.bad(text, len(plain.stand) + 1)

    def bad(self, text, at):
        self.refuses(BadText, read_page, text, row=at)


def pairs_of(deed):
    """All numbers of a deed's columns and tables."""
    if deed[0] == "say":
        return list(deed[2])
    return [pair for lines in deed[1:] if isinstance(lines, tuple) for line in lines for pair in line]


if __name__ == "__main__":
    unittest.main()
