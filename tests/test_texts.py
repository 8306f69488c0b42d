import unittest
from itertools import product
from math import gcd

from helpers import (
    BAD_FIELDS, NOUGHT, ONE, PRIMES, SOME_FIELDS, Case, chance_number, chance_rows, chance_table, new_chance, number,
    row, table,
)
from stalkweb.errors import BadField, BadText
from stalkweb.texts import deed_text, read_deed

# Deeds over fractions, as the document tells them, and how they are written.
TOLD = [
    (("place", 2), "place 2"), (("shut", 1), "shut 1"), (("cut", 1), "cut 1"), (("unsay", 1), "unsay 1"),
    (("tie", 1, 2, 1, table(0, (1, 0)), table(0, (0, (-1, 2)))), "tie 1 2 1 1,0 0,-1/2"),
    (("change", 1, 0, table(0, (1, 3))), "change 1 0 1,3"), (("say", 1, row(0, 1, 2)), "say 1 1,2"),
    # Columns without numbers, tables without rows, and rows without numbers.
    (("say", 3, ()), "say 3 *"), (("change", 7, 1, ()), "change 7 1 #"), (("change", 7, 1, ((),)), "change 7 1 *"),
    (("change", 7, 1, ((), (), ())), "change 7 1 *;*;*"), (("tie", 4, 4, 0, (), ()), "tie 4 4 0 # #"),
    (("tie", 1, 2, 2, ((), ()), table(0, (1,), (2,))), "tie 1 2 2 *;* 1;2"),
    # Rows of unlike length, and more than there may be.
    (("change", 2, 1, (row(0, 1), (), row(0, 1, 2))), "change 2 1 1;*;1,2"),
    (("say", 1, (ONE,) * 9), "say 1 " + ",".join("1" * 9)),
    (("change", 1, 9999, (row(0, 1, 2),) * 5), "change 1 9999 " + ";".join(["1,2"] * 5)),
    # The numbers' ends.
    (
        ("say", 1, row(0, 99, -99, (98, 99), (-97, 99), (1, 99), (99, 2), 0, 10, -10)),
        "say 1 99,-99,98/99,-97/99,1/99,99/2,0,10,-10"
    ),
    (("place", 0), "place 0"), (("place", 9999), "place 9999"), (("shut", 0), "shut 0"), (("cut", 9999), "cut 9999"),
    (("unsay", 1000), "unsay 1000"), (("tie", 0, 9999, 10, (), ()), "tie 0 9999 10 # #"),
]
BAD = [
    "", " ", "\n", "place", "place ", "place  2", " place 2", "place 2 ", "place\n2", "place 2\n", "\nplace 2",
    "place 2 3", "Place 2",
    "PLACE 2", "places 2", "plac 2", "places", "undo", "field 0", "place x", "place -1", "place -0", "place +2",
    "place 02",
    "place 00", "place 10000", "place 99999", "place 1/2", "place 2/1", "place *", "place #", "place 1,2", "place 2.",
    "place 2.0",
    "place 0x1", "place 1_0", "place 1e1", "place ''", "shut", "shut -1", "shut 1 2", "shut 01", "shut 1,", "cut",
    "cut 1 1", "cut -1", "cut *",
    "unsay", "unsay 1 2", "unsay 1 1,2", "unsay *", "say", "say 1", "say 1 ", "say 1 1 2", "say 1  1", "say  1 1",
    "say 1 1 ", "say -1 1", "say 01 1",
    "say 1 ,", "say 1 1,", "say 1 ,1", "say 1 1,,2", "say 1 1, 2", "say 1 1;2", "say 1 #", "say 1 **", "say 1 *,1",
    "say 1 1,*", "say 1 *,*",
    "say 1 x", "say 1 +1", "say 1 01", "say 1 00", "say 1 -0", "say 1 -01", "say 1 --1", "say 1 -", "say 1 /",
    "say 1 1/", "say 1 /2", "say 1 -/2",
    "say 1 1/1", "say 1 0/1", "say 1 0/2", "say 1 -0/2", "say 1 1/0", "say 1 0/0", "say 1 99/0", "say 1 2/4",
    "say 1 3/99", "say 1 1/02", "say 1 01/2",
    "say 1 1/-2", "say 1 -1/-2", "say 1 1/+2", "say 1 1/2/3", "say 1 1//2", "say 1 1/2/", "say 1 1-", "say 1 1-2",
    "say 1 100", "say 1 -100",
    "say 1 1/100", "say 1 100/99", "say 1 1/2,2/4", "say 1 1.0", "say 1 1_0", "say 1 1\n", "say 1 1,\n2",
    "say 1 (1,1)", "say * 1", "say # 1",
    "change", "change 1", "change 1 0", "change 1 0 1,3 1", "change 1 0  1,3", "change -1 0 1", "change 1 -0 1",
    "change 1 00 1", "change 1 0 ",
    "change 1 0 ;", "change 1 0 1;", "change 1 0 ;1", "change 1 0 1;;2", "change 1 0 1,;2", "change 1 0 #;1",
    "change 1 0 1;#", "change 1 0 ##",
    "change 1 0 #;#", "change 1 0 1;2,", "change 1 0 *;", "change 1 0 1 ;2", "change * 0 1", "change 1 * 1",
    "tie", "tie 1 2 1 1", "tie 1 2 1 1 1 1", "tie 1 2 1  1 1", "tie 1 2 -1 1 1", "tie 1 2 01 1 1", "tie 1 -2 1 1 1",
    "tie 1 2 1 1 1,", "tie 1 2 1 1, 1",
    "tie 1 2 0 # ", "tie 1 2 0  #", "tie 1 2 0 #", "tie 1,2 0 # # #", "tie 1 2 0 # #\n", "tie 1 2 0 ## #",
    "tie 1 2 1 1;2/4 1", "tie 1 2 1 1 -0",
    "Say 1 1", "sAy 1 1", "say1 1", "!", "~", "say", "say,1,1", "say\t1", "held 1 1", "redo", "said", "{}", "place {2}",
]


def written(pair):
    """A number of few figures as the document writes it."""
    top, bottom = pair
    return f"{top}" if bottom == 1 else f"{top}/{bottom}"


def all_written():
    """All numbers that are read over fractions, by their texts."""
    pairs = [(top, bottom) for top in range(-99, 100) for bottom in range(1, 100) if gcd(top, bottom) == 1]
    return {written(pair): pair for pair in pairs}


def chance_deed(chance, field, figures=2):
    """A deed that can be read, whatever else it is."""
    word = chance.choice(("place", "shut", "tie", "cut", "change", "say", "unsay"))
    wholes = [chance.choice((0, 1, 2, 3, 9, 10, 99, 100, 9999, chance.randint(0, 9999))) for _ in range(3)]

    def some_table():
        length = chance.randint(0, 4)
        found = chance_table(chance, field, chance.randint(0, 4), length, figures)
        longer = chance_table(chance, field, 1, length + 1, figures)
        return found[:1] + longer + found[1:] if chance.random() < 0.3 else found

    return {
        "place": ("place", wholes[0]), "shut": ("shut", wholes[0]), "cut": ("cut", wholes[0]),
        "unsay": ("unsay", wholes[0]),
        "tie": ("tie", *wholes, some_table(), some_table()), "change": ("change", *wholes[:2], some_table()),
        "say": ("say", wholes[0], chance_rows(chance, field, 1, chance.randint(0, 9), figures)[0]),
    }[word]


class There(Case):
    def test_told_deeds(self):
        for deed, text in TOLD:
            self.assertEqual(deed_text(deed), text)

    def test_told_deeds_are_read(self):
        for deed, text in TOLD:
            told = read_deed(0, text)
            self.assertIs(told.__class__, tuple)
            self.assertEqual(told, deed)

    def test_there_and_back(self):
        chance = new_chance(261)
        words = set()
        for field in SOME_FIELDS:
            for _ in range(300):
                deed = chance_deed(chance, field)
                text = deed_text(deed)
                self.assertIs(text.__class__, str)
                self.assertEqual(read_deed(field, text), deed)
                words.add(text.split(" ")[0])
        self.assertEqual(len(words), 7)

    def test_things_are_tuples_through_and_through(self):
        deed = read_deed(0, "tie 1 2 1 1,0;*;2 #")
        self.assertEqual([thing.__class__ for thing in deed], [str, int, int, int, tuple, tuple])
        self.assertEqual([line.__class__ for line in deed[4]], [tuple] * 3)
        self.assertEqual(deed[4], (row(0, 1, 0), (), row(0, 2)))
        self.assertEqual(read_deed(7, "say 3 5,6"), ("say", 3, ((5, 1), (6, 1))))

    def test_numbers_beyond_what_is_read_are_written_all_the_same(self):
        # The numbers of places and ties go on, and so may their texts.
        self.assertEqual(deed_text(("shut", 123456)), "shut 123456")


class NotSoWritten(Case):
    def test_told_texts(self):
        for text in BAD:
            with self.subTest(text):
                self.refuses(BadText, read_deed, 0, text, row=0)
                self.refuses(BadText, read_deed, 7, text, row=0)

    def test_signs_at_the_ends_and_within(self):
        for deed, text in TOLD:
            for sign in " \n.,;/*#-+_'~!x":
                self.refuses(BadText, read_deed, 0, sign + text)
                self.refuses(BadText, read_deed, 0, text.replace(" ", sign + " ", 1))
            for sign in " \n.,;/*#-+_'~!x":
                self.refuses(BadText, read_deed, 0, text + sign)
            for at, sign in enumerate(text):
                if sign == " ":
                    for other in ("", "  ", "\n", ",", ";", " \n", "\n "):
                        self.refuses(BadText, read_deed, 0, text[:at] + other + text[at + 1:])

    def test_each_text_of_a_number(self):
        good = all_written()
        read = 0
        for length in range(1, 6):
            for signs in product("0129-/", repeat=length):
                text = "".join(signs)
                if text in good:
                    self.assertEqual(read_deed(0, "say 1 " + text), ("say", 1, (good[text],)))
                    read += 1
                else:
                    self.refuses(BadText, read_deed, 0, "say 1 " + text, row=0)
        self.assertGreater(read, 100)

    def test_all_numbers_that_are_read(self):
        good = all_written()
        for text, pair in good.items():
            self.assertEqual(read_deed(0, f"change 1 0 {text}"), ("change", 1, 0, ((pair,),)))
            self.assertEqual(deed_text(("change", 1, 0, ((pair,),))), f"change 1 0 {text}")

    def test_tops_and_bottoms_not_in_lowest_terms(self):
        for top in range(-12, 13):
            for bottom in range(13):
                text = f"say 1 {top}/{bottom}"
                if bottom > 1 and gcd(top, bottom) == 1:
                    self.assertEqual(read_deed(0, text), ("say", 1, ((top, bottom),)))
                else:
                    self.refuses(BadText, read_deed, 0, text)

    def test_each_text_of_another_number(self):
        good = {str(whole) for whole in range(10000)}
        for length in range(6):
            for signs in product("0129-", repeat=length):
                text = "".join(signs)
                for before, behind in (("place ", ""), ("say ", " 1"), ("change 1 ", " #")):
                    if text in good:
                        self.assertIn(int(text), read_deed(0, before + text + behind))
                    else:
                        self.refuses(BadText, read_deed, 0, before + text + behind)

    def test_figures_too_many(self):
        for text in (
            "place 10000", "place 00001", "place 0001", "shut 12345", "say 1 123", "say 1 1/123", "say 1 012",
            "tie 1 2 12345 # #"
        ):
            self.refuses(BadText, read_deed, 0, text)
        for text in ("place 9999", "shut 1234", "say 1234 12", "say 1 11/12", "tie 1 2 1234 # #"):
            self.assertEqual(deed_text(read_deed(0, text)), text)

    def test_long_texts(self):
        many = 6000
        self.assertEqual(read_deed(0, "say 1 " + ",".join("1" * many)), ("say", 1, (ONE,) * many))
        self.assertEqual(read_deed(0, "change 1 0 " + ";".join("0" * many)), ("change", 1, 0, ((NOUGHT,),) * many))
        self.refuses(BadText, read_deed, 0, "say 1 " + ",".join("1" * many) + ",")
        self.refuses(BadText, read_deed, 0, "place " + "1" * 19000)
        self.refuses(BadText, read_deed, 0, "x" * 20000)
        self.refuses(BadText, read_deed, 0, " " * 20000)
        self.refuses(BadText, read_deed, 0, "say 1 " + "-" * 19000)


class ByAPrime(Case):
    def test_no_minus_and_no_bottoms(self):
        for prime in PRIMES:
            for top in range(100):
                self.assertEqual(read_deed(prime, f"say 1 {top}"), ("say", 1, ((top, 1),)))
            for text in ("-1", "-0", "1/2", "1/1", "0/1", "-1/2", "-99", "98/99", "01", "100", "1/0"):
                for before in ("say 1 ", "say 1 1,", "change 1 0 ", "change 1 0 1;", "tie 1 2 1 ", "tie 1 2 1 # "):
                    behind = " #" if before == "tie 1 2 1 " else ""
                    self.refuses(BadText, read_deed, prime, before + text + behind, row=0)

    def test_tops_as_great_as_the_prime_are_read(self):
        self.assertEqual(read_deed(2, "say 1 2,3,99"), ("say", 1, ((2, 1), (3, 1), (99, 1))))
        self.assertEqual(read_deed(97, "change 1 0 97;98"), ("change", 1, 0, (((97, 1),), ((98, 1),))))

    def test_other_numbers_are_read_as_over_fractions(self):
        for prime in PRIMES:
            self.assertEqual(read_deed(prime, "place 9999"), ("place", 9999))
            self.refuses(BadText, read_deed, prime, "place -1")

    def test_deeds_of_a_prime_are_read_over_fractions_too(self):
        chance = new_chance(262)
        for _ in range(100):
            deed = ("say", 1, tuple(chance_number(chance, 97) for _ in range(4)))
            self.assertEqual(read_deed(0, deed_text(deed)), deed)


class Fields(Case):
    def test_no_field_ahead_of_all_else(self):
        for field in BAD_FIELDS:
            for text in ("place 2", "", "x", "say 1 1/2", "say 1 01"):
                self.refuses(BadField, read_deed, field, text)

    def test_by_name(self):
        self.assertEqual(deed_text(deed=("place", 2)), "place 2")
        self.assertEqual(read_deed(text="say 1 1/2", field=0), ("say", 1, (number(0, 1, 2),)))


if __name__ == "__main__":
    unittest.main()
