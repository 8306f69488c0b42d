import unittest
from itertools import product

from helpers import BAD_FIELDS, ONE, PRIMES, SOME_FIELDS, Case, flat, new_chance, plain_rank, row, table
from plain_book import PlainBook, chance_deed, is_bounded
from stalkweb.book import Book
from stalkweb.desk import Desk
from stalkweb.errors import BadField, Empty, NothingLeft
from stalkweb.gaps import gap
from stalkweb.sayings import goes_on
from stalkweb.texts import deed_text
from stalkweb.whole import free, sections

QUESTIONS = ("places", "ties", "said", "free", "gap", "sections", "goes")
# Lines that are no deed, no question and nothing to take back.
NO_LINES = [
    "", " ", "  ", "\n", "what", "no", "done", "none", "x", "?", "field 0", "web", "deeds", "book", "twin", "len",
    "against", "on", "goes_on", "held", "held ",
    "held 1", "held 1 ", "held  1 1", "held 1  1", " held 1 1", "held 1 1 ", "held 1 1 1", "held 1 1, 2",
    "held 1 1 2", "Held 1 1", "HELD 1 1", "held 01 1",
    "held -1 1", "held 1 01", "held 1 2/4", "held 1 1/1", "held 1 #", "held 1 1;2", "held 1 100", "held 10000 1",
    "held 1 1\n", "held1 1", "held,1,1",
    "held * 1", "hold 1 1", "helds 1 1", "held say 1", "held 1 -0", "held 1 --1", "held 1 1/0",
    "place", "place ", "place  1", " place 1", "place 1 ", "place 1 1", "Place 1", "PLACE 1", "place -1", "place 01",
    "place 10000", "place 1\n", "place x",
    "shut", "shut 1 1", "Shut 1", "tie", "tie 1 1 1 1", "tie 1 1 1 1 1 1", "tie 1 1 1 1  1", "Tie 1 1 1 1 1",
    "tie 1 1 1 2/4 1", "cut", "cut 1 1", "Cut 1",
    "change", "change 1 0", "change 1 0 1 1", "Change 1 0 1", "change 1 0 1;", "say", "say 1", "say 1 1 1", "Say 1 1",
    "say 1 1,", "unsay", "unsay 1 1", "Unsay 1",
]
for word in QUESTIONS + ("undo", "redo"):
    NO_LINES += [
        word + " ", " " + word, word + " 1", word.upper(), word.title(), word + "\n", "\n" + word, word + "s ",
        word * 2, word[:-1], word + ","
    ]


def desk_with(*lines, field=0):
    desk = Desk(field)
    for line in lines:
        assert desk.say(line).split(" ")[0] not in ("no", "what"), line
    return desk


def written(pair):
    return f"{pair[0]}/{pair[1]}" if pair[1] != 1 else f"{pair[0]}"


def written_column(column):
    return ",".join(map(written, column)) or "*"


def several(texts):
    return ", ".join(texts) or "none"


def told_answers(plain):
    """What each question is answered with, by a plain book."""
    places, ties, said, _ = plain.told()
    found = {
        "places": several([f"{number}" for number, room in places]), "ties": several([f"{tie[0]}" for tie in ties]),
        "said": several([f"{number} {written_column(column)}" for number, column in said]),
    }
    web = plain.web()
    if web is Empty:
        return dict(found, **{word: "no empty" for word in ("free", "gap", "sections", "goes")})
    base = [" ".join(map(written_column, whole)) for whole in sections(web)]
    return dict(
        found, free=f"{free(web)}", gap=f"{gap(web)}", sections=several(base),
        goes="against" if goes_on(web, plain.sayings()) is None else "on",
    )


def is_held(web, place, column):
    """Whether some section has the column there: whether it is a sum of multiples of the base's columns there."""
    columns = [whole[place] for whole in sections(web)]
    return plain_rank(web[0], columns) == plain_rank(web[0], columns + [column])


class Deeds(Case):
    def test_told_answers(self):
        desk = Desk()
        for line, told in (
            ("place 2", "1"), ("place 1", "2"), ("tie 1 2 1 1,0 1/2", "1"), ("tie 1 2 1 0,1 -1", "2"),
            ("change 1 0 2,3", "done"), ("say 1 1,-1/2", "done"),
            ("unsay 1", "done"), ("cut 2", "done"), ("place 0", "3"), ("shut 3", "done"), ("place 0", "4"),
            ("tie 4 4 0 # #", "3"),
            ("say 4 *", "done"), ("shut 4", "no tied"), ("shut 3", "no noplace"),
        ):
            self.assertEqual(desk.say(line), told)
        self.assertEqual(str(desk.book()), "\n".join([
            "field 0", "place 2", "place 1", "tie 1 2 1 1,0 1/2", "tie 1 2 1 0,1 -1", "change 1 0 2,3",
            "say 1 1,-1/2", "unsay 1", "cut 2", "place 0",
            "shut 3", "place 0", "tie 4 4 0 # #", "say 4 *",
        ]))

    def test_each_refusal(self):
        full = ["place 1"] * 8 + ["tie 1 1 1 1 1"] * 12
        for lines, line, told in (
            ([], "place 4", "no badroom"), ([], "place 9999", "no badroom"), (full, "place 1", "no full"),
            (full, "place 4", "no badroom"),
            ([], "shut 1", "no noplace"), (full, "shut 1", "no tied"), ([], "tie 1 1 4 # #", "no noplace"),
            (full, "tie 1 2 4 # #", "no badroom"),
            (full, "tie 1 9 1 1 1", "no noplace"), (full, "tie 1 2 1 1 #", "no badtable"),
            (full, "tie 1 2 1 1 1", "no full"), (full, "tie 1 2 2 1;2 1", "no badtable"),
            ([], "cut 1", "no notie"), (full, "cut 13", "no notie"), (full, "change 13 2 #", "no notie"),
            (full, "change 1 2 #", "no badend"),
            (full, "change 1 1 #", "no badtable"), ([], "say 1 1", "no noplace"), (full, "say 1 *", "no badcolumn"),
            (full, "say 1 1,2", "no badcolumn"),
            ([], "unsay 0", "no noplace"), (full, "unsay 1", "no notsaid"), ([], "undo", "no nothingleft"),
            ([], "redo", "no nothingleft"), (full, "redo", "no nothingleft"),
            ([], "free", "no empty"), ([], "gap", "no empty"), ([], "sections", "no empty"), ([], "goes", "no empty"),
            ([], "held 1 1", "no empty"),
        ):
            desk = desk_with(*lines)
            before = desk.book()
            self.assertEqual(desk.say(line), told)
            self.assertEqual(desk.book(), before)
            self.assertEqual(desk.book().deeds(), before.deeds())

    def test_take_back_and_do_again(self):
        desk = desk_with("place 2", "place 1", "say 1 1,-1/2")
        self.assertEqual([desk.say("undo") for _ in range(4)], ["say 1 1,-1/2", "place 1", "place 2", "no nothingleft"])
        self.assertEqual([desk.say("redo") for _ in range(4)], ["place 2", "place 1", "say 1 1,-1/2", "no nothingleft"])
        self.assertEqual([desk.say(line) for line in ("undo", "place 3", "redo", "undo", "undo", "undo", "undo")], [
            "say 1 1,-1/2", "3", "no nothingleft", "place 3", "place 1", "place 2", "no nothingleft",
        ])

    def test_by_a_prime(self):
        for prime in PRIMES:
            desk = desk_with("place 1", field=prime)
            for line, told in (
                (f"say 1 {prime - 1}", "done"), (f"say 1 {prime}", "no badcolumn"), ("say 1 -1", "what"),
                ("say 1 1/2", "what"), ("held 1 -1", "what"),
                (f"held 1 {prime}", "no badcolumn"), (f"held 1 {prime - 1}", "yes"),
                (f"tie 1 1 1 {prime} 0", "no badtable"),
            ):
                self.assertEqual(desk.say(line), told)

    def test_no_field(self):
        for field in BAD_FIELDS:
            self.refuses(BadField, Desk, field)


class Questions(Case):
    def test_of_an_empty_book(self):
        for desk in (Desk(), Desk(7), desk_with("place 1", "say 1 1", "shut 1"), desk_with("place 1", "undo")):
            told = [desk.say(line) for line in QUESTIONS + ("held 1 1", "held 9 *", "held 0 1,2,3,4")]
            self.assertEqual(told, ["none"] * 3 + ["no empty"] * 7)

    def test_of_one_thing_and_of_several(self):
        desk = desk_with("place 1")
        self.assertEqual([desk.say(line) for line in QUESTIONS], ["1", "none", "none", "1", "0", "1", "on"])
        desk = desk_with("place 1", "place 2", "place 0", "shut 1", "place 1", "say 4 -2/3", "say 2 1,2", "say 3 *")
        self.assertEqual(desk.say("places"), "2, 3, 4")
        self.assertEqual(desk.say("ties"), "none")
        self.assertEqual(desk.say("said"), "2 1,2, 3 *, 4 -2/3")
        self.assertEqual(desk.say("sections"), "1,0 * 0, 0,1 * 0, 0,0 * 1")
        self.assertEqual((desk.say("free"), desk.say("gap"), desk.say("goes")), ("3", "0", "on"))
        desk.say("tie 2 4 1 1,1 3")
        self.assertEqual((desk.say("ties"), desk.say("goes")), ("1", "against"))
        self.assertEqual(desk.say("sections"), "-1,1 * 0, 3,0 * 1")
        desk.say("say 4 1")
        self.assertEqual(desk.say("goes"), "on")
        for line in ("tie 2 2 2 1,0;0,1 1,0;0,1", "cut 1", "tie 3 3 0 # #"):
            desk.say(line)
        self.assertEqual((desk.say("ties"), desk.say("gap")), ("2, 3", "2"))

    def test_no_sections_but_nought(self):
        desk = desk_with("place 1", "tie 1 1 1 1 2")
        self.assertEqual(
            [desk.say(line) for line in ("free", "gap", "sections", "goes", "held 1 0", "held 1 1")],
            ["0", "0", "none", "on", "yes", "no"]
        )
        desk = desk_with("place 0")
        self.assertEqual(
            [desk.say(line) for line in ("free", "gap", "sections", "goes", "held 1 *")],
            ["0", "0", "none", "on", "yes"]
        )

    def test_numbers_of_sections_may_be_great(self):
        desk = desk_with("place 1", "place 1", "place 1", "tie 1 2 1 1/97 89", "tie 2 3 1 1/83 79")
        self.assertEqual(desk.say("sections"), f"{97 * 89 * 83 * 79} {83 * 79} 1")
        self.assertEqual([desk.say(f"held 3 {text}") for text in ("1", "99", "-1/99")], ["yes"] * 3)

    def test_held(self):
        desk = desk_with("place 2", "place 1", "shut 1", "place 2", "place 0", "tie 3 2 1 1,1 2", "tie 3 3 1 1,0 0,3")
        for line, told in (
            ("held 3 0,0", "yes"), ("held 3 3,1", "yes"), ("held 3 1,1/3", "yes"), ("held 3 1,1", "no"),
            ("held 3 1,0", "no"), ("held 2 5", "yes"),
            ("held 4 *", "yes"), ("held 1 1,1", "no noplace"), ("held 5 1", "no noplace"), ("held 0 1", "no noplace"),
            ("held 9999 1,2,3", "no noplace"),
            ("held 3 1", "no badcolumn"), ("held 3 *", "no badcolumn"), ("held 3 1,2,3", "no badcolumn"),
            ("held 4 1", "no badcolumn"), ("held 2 1,1", "no badcolumn"),
        ):
            self.assertEqual(desk.say(line), told)

    def test_held_asks_nothing_of_what_was_said(self):
        desk = desk_with("place 1", "place 1", "tie 1 2 1 1 1", "say 1 3", "say 2 4")
        self.assertEqual(
            [desk.say(line) for line in ("goes", "held 1 3", "held 1 5", "held 2 5")],
            ["against", "yes", "yes", "yes"]
        )

    def test_held_with_each_refusal_in_order(self):
        # What is not so written, then an empty book, no place, a bad column.
        self.assertEqual(
            [Desk().say(line) for line in ("held 1 01", "held 1", "held 1 1", "held 7 1,2")],
            ["what", "what", "no empty", "no empty"]
        )
        desk = desk_with("place 1")
        self.assertEqual(
            [desk.say(line) for line in ("held 7 01", "held 7 1,2", "held 7 1", "held 1 1,2", "held 1 1")],
            ["what", "no noplace", "no noplace", "no badcolumn", "yes"],
        )

    def test_held_against_the_base(self):
        chance = new_chance(301)
        told = []
        for prime in (2, 3):
            for _ in range(12):
                plain, desk = PlainBook(prime), Desk(prime)
                for _ in range(14):
                    deed = chance_deed(chance, plain, (0, 1, 2))
                    if plain.refusal(deed) is None:
                        plain.do(deed)
                        desk.say(deed_text(deed))
                if plain.web() is Empty:
                    continue
                for at, (number, room) in enumerate(plain.told()[0]):
                    for tops in product(range(prime), repeat=room):
                        column = tuple((top, 1) for top in tops)
                        answer = "yes" if is_held(plain.web(), at, column) else "no"
                        self.assertEqual(desk.say(f"held {number} {written_column(column)}"), answer)
                        told.append(answer)
        self.assertGreater(told.count("yes"), 50)
        self.assertGreater(told.count("no"), 20)


class ChanceRuns(Case):
    def test_against_a_plain_book(self):
        chance = new_chance(302)
        for field in SOME_FIELDS:
            for _ in range(3):
                desk, plain = Desk(field), PlainBook(field)
                for _ in range(50):
                    self.one_step(chance, desk, plain)
                    answers = told_answers(plain)
                    # Asked twice.
                    for _ in range(2):
                        self.assertEqual({line: desk.say(line) for line in QUESTIONS}, answers)
                    self.assertEqual(desk.book().deeds(), plain.stand)

    def one_step(self, chance, desk, plain):
        if chance.random() < 0.3:
            word = chance.choice(("undo", "undo", "redo"))
            told = plain.step(word)
            self.assertEqual(desk.say(word), "no nothingleft" if told is NothingLeft else deed_text(told))
            return
        deed = chance_deed(chance, plain)
        if can_be_written(plain.field, deed):
            kind = plain.refusal(deed)
            if kind is not None:
                self.assertEqual(desk.say(deed_text(deed)), "no " + kind.__name__.lower())
            else:
                number = plain.do(deed)
                self.assertEqual(desk.say(deed_text(deed)), f"{number}" if deed[0] in ("place", "tie") else "done")


def can_be_written(field, deed):
    """Whether the deed's text is one that is read as this deed."""
    whole = [thing for thing in deed[1:] if isinstance(thing, int)]
    tables = [[thing] if deed[0] == "say" else thing for thing in deed[1:] if isinstance(thing, tuple)]
    pairs = [pair for lines in tables for line in lines for pair in line]
    if not all(0 <= thing <= 9999 for thing in whole):
        return False
    if field:
        return all(bottom == 1 and 0 <= top <= 99 for top, bottom in pairs)
    return all(is_bounded(0, pair) for pair in pairs)


class NoLines(Case):
    def test_what(self):
        for lines in ([], ["place 1", "tie 1 1 1 1 1", "say 1 3"]):
            desk = desk_with(*lines)
            for line in NO_LINES:
                self.assertEqual(desk.say(line), "what", line)
            self.assertEqual(desk.book().deeds(), desk_with(*lines).book().deeds())

    def test_what_and_no_change_nothing_nor_what_can_be_done_again(self):
        for line in NO_LINES + ["place 4", "cut 7", "shut 1", "say 1 1,2", "held 9 1", "held 1 1,2"]:
            desk = desk_with("place 1", "tie 1 1 1 1 1", "say 1 3", "place 2", "undo", "undo")
            self.assertIn(desk.say(line).split(" ")[0], ("what", "no"))
            self.assertEqual(
                [desk.say(word) for word in ("redo", "redo", "redo")], ["say 1 3", "place 2", "no nothingleft"]
            )

    def test_a_question_lets_nothing_go(self):
        desk = desk_with("place 1", "place 2", "undo")
        for line in QUESTIONS + ("held 1 1", "held 1 2", "held 2 1,1"):
            desk.say(line)
        self.assertEqual([desk.say("redo"), desk.say("redo")], ["place 2", "no nothingleft"])

    def test_a_new_deed_lets_what_was_taken_back_go(self):
        desk = desk_with("place 1", "place 2", "undo", "say 1 1")
        self.assertEqual(desk.say("redo"), "no nothingleft")


class Books(Case):
    def test_a_twin_of_its_book(self):
        desk = desk_with("place 1", "place 2", "say 1 3", "undo")
        book = desk.book()
        self.assertIs(book.__class__, Book)
        self.assertEqual((book.places(), book.said()), ([(1, 1), (2, 2)], []))
        self.assertEqual(book.redo(), ("say", 1, row(0, 3)))
        book.do(("place", 3))
        book.do(("tie", 1, 1, 1, table(0, (1,)), table(0, (2,))))
        # None of this changed the desk, nor what it can do again.
        self.assertEqual([desk.say(line) for line in ("places", "ties", "said", "redo", "said", "place 0")], [
            "1, 2", "none", "none", "say 1 3", "1 3", "3",
        ])
        self.assertEqual(book.places(), [(1, 1), (2, 2), (3, 3)])
        self.assertEqual(desk.book().places(), [(1, 1), (2, 2), (3, 0)])

    def test_each_time_another_one(self):
        desk = desk_with("place 1")
        one, other = desk.book(), desk.book()
        self.assertEqual(one, other)
        one.undo()
        self.assertEqual((other.places(), desk.say("places")), ([(1, 1)], "1"))

    def test_of_a_field(self):
        for field in SOME_FIELDS:
            self.assertEqual(Desk(field).book(), Book(field))
        self.assertEqual(Desk().book(), Book(0))

    def test_two_desks_by_turns(self):
        one, other = Desk(), Desk(5)
        told = [
            desk.say(line) for line in (
                "place 1", "place 2", "say 1 3", "said", "undo", "undo", "places", "redo", "redo", "redo"
            ) for desk in (one, other)
        ]
        self.assertEqual(told[::2], told[1::2])
        self.assertEqual(one.say("say 1 -1/2"), "done")
        self.assertEqual((one.say("said"), other.say("said")), ("1 -1/2", "1 3"))
        other.say("shut 2")
        self.assertEqual((one.say("places"), other.say("places")), ("1, 2", "1"))

    def test_by_name(self):
        desk = Desk(field=7)
        self.assertEqual([desk.say(line="place 1"), desk.say(line="places")], ["1", "1"])
        self.assertEqual(desk.book().web(), (7, (1,), ()))
        self.assertEqual(flat(desk.book().sections()[0]), (ONE,))


if __name__ == "__main__":
    unittest.main()
