"""Each refusal of the document by a cause of its own, as the program raises it."""

import unittest

from helpers import ONE, Case, noughts, row, table, unit
from stalkweb import errors
from stalkweb.book import Book
from stalkweb.desk import Desk
from stalkweb.drawn import between, drawn, drawn_back
from stalkweb.gaps import meets, stands_against
from stalkweb.goings import gone, kept_columns, turning
from stalkweb.kept import Kept
from stalkweb.maps import both, is_map, mapped
from stalkweb.nearest import nearest, square
from stalkweb.numbers import is_number, made, over, plus
from stalkweb.pages import read_page
from stalkweb.parts import glued, joining, view
from stalkweb.rings import ring, way
from stalkweb.rows import met, reduced
from stalkweb.sayings import against, goes_on
from stalkweb.tables import behind, lead
from stalkweb.texts import read_deed
from stalkweb.webs import agrees, is_web
from stalkweb.whole import count, factors_of, number_of, numbered, sum_of

WEB = (0, (1, 1), ((0, 1, 1, unit(1), table(0, (2,))),))
# The second table of the second tie does not turn back, nor does the first one of the third.
SLACK = (
    5, (1, 2),
    ((0, 0, 1, unit(1), unit(1)), (0, 1, 1, unit(1), table(5, (1, 2))), (1, 0, 2, unit(2), table(5, (0,), (0,))))
)
# A tie along which nought alone agrees.
DOUBLING = (0, 0, 1, unit(1), table(5, (2,)))
ONES = [(ONE,), (ONE,)]
FULL = (0, (1,) * 8, ((0, 1, 1, unit(1), unit(1)),))
GREAT = (0, (1, 1), ((0, 1, 1, table(0, (99,)), unit(1)), (1, 1, 1, table(0, (99,)), unit(1))))


def filled():
    kept = Kept(0, 0)
    for _ in range(60):
        kept.put(())
    return kept


def book(*deeds):
    found = Book()
    for deed in deeds:
        found.do(deed)
    return found


PLACE = ("place", 1)
TIE = ("tie", 1, 1, 1, unit(1), unit(1))
# By the class's name: its field's worth or None, and calls that are refused with it.
CAUSES = {
    "BadField": (None, [
        lambda: made(4, 1), lambda: Kept(1, 0), lambda: is_web((6, (1,), ())), lambda: Book(-7), lambda: Desk(100),
        lambda: read_deed(9, ""),
        lambda: is_number(91, (0, 1)), lambda: square(4, []), lambda: both(4, [], []),
        lambda: is_map(WEB, (8, (1,), ()), [], []),
    ]),
    "BadNumber": (None, [
        lambda: plus(0, (2, 2), ONE), lambda: reduced(0, [((2, 2),)], 1), lambda: lead(5, (), ((5, 1),)),
        lambda: square(0, [((1, 0),)]),
        lambda: both(5, [(((5, 1),),)], [unit(1)]), lambda: Kept(5, 1).put(((1, 2),)),
    ]),
    "Nought": (None, [lambda: made(5, 1, 10), lambda: made(0, 0, 0), lambda: over(0, (0, 1)), lambda: over(5, (0, 1))]),
    "BadShape": (None, [
        lambda: reduced(0, [], 41), lambda: met(0, [], 1, (ONE,)), lambda: behind(0, unit(1), ()),
        lambda: Kept(0, -1), lambda: both(0, [()], []),
    ]),
    "BadWeb": (None, [
        lambda: view((0, (4,), ()), []), lambda: drawn((0, (), ()), 9), lambda: nearest((5, (9,), ()), []),
        lambda: mapped(WEB, (0, (), ()), [], [], []),
        lambda: between((0, (1,), ((0, 1, 0, (), ()),)), 0), lambda: joining((0, (1,) * 9, ()), [], []),
    ]),
    "BadWhole": (None, [
        lambda: agrees(WEB, []), lambda: sum_of(WEB, []), lambda: gone(WEB, 0, (), []),
        lambda: nearest(WEB, [(ONE,)]), lambda: drawn_back(WEB, 0, []),
        lambda: mapped(WEB, WEB, [unit(1)] * 2, [unit(1)], [()]), lambda: glued(WEB, [0, 1], [1], ONES, []),
        lambda: factors_of(WEB, [((2, 2),), (ONE,)]),
    ]),
    "BadAsk": (None, [lambda: meets(WEB, []), lambda: stands_against(WEB, [((2, 2),)])]),
    "BadSaying": (None, [lambda: goes_on(WEB, [(2, (ONE,))]), lambda: against(WEB, [(1, (ONE,)), (0, (ONE,))])]),
    "BadSteps": (None, [lambda: gone(WEB, 0, (ONE,), [(1, True)]), lambda: turning(WEB, 0, [(0, False)])]),
    "NoWay": (1, [
        lambda: gone(SLACK, 0, (ONE,), [(0, True), (1, True)]), lambda: turning(SLACK, 0, [(0, False), (1, True)]),
        lambda: drawn(SLACK, 1),
        lambda: drawn_back(SLACK, 1, []), lambda: drawn((0, (1, 1), FULL[2] + ((1, 1, 1, unit(1), unit(1)),)), 1),
    ]),
    "BadView": (
        None,
        [
            lambda: view(WEB, []), lambda: view(WEB, [1, 0]), lambda: joining(WEB, [0], [1]),
            lambda: glued(WEB, [0], [0], [], [])
        ]
    ),
    "Unlike": (1, [
        lambda: glued(WEB, [0, 1], [1], [row(0, 2), row(0, 1)], [row(0, 2)]),
        lambda: glued(WEB, [1], [0, 1], [row(0, 2)], [row(0, 2), row(0, 1)]),
    ]),
    "Full": (None, [
        lambda: filled().put(()), lambda: between(FULL, 0), lambda: drawn(GREAT, 0), lambda: drawn_back(GREAT, 0, []),
        lambda: book(*[PLACE] * 8).do(PLACE), lambda: book(PLACE, *[TIE] * 12).do(TIE),
    ]),
    "NoSquares": (None, [lambda: square(2, []), lambda: nearest((97, (1,), ()), [])]),
    "NoMap": (
        None, [lambda: mapped(WEB, WEB, [unit(1)] * 2, [table(0, (2,))], []), lambda: mapped(WEB, SLACK, [], [], [])]
    ),
    "NoEnd": (None, [lambda: count(WEB), lambda: numbered(WEB, 0), lambda: number_of(WEB, [])]),
    "NotStiff": (None, [lambda: kept_columns(SLACK, 9), lambda: kept_columns(SLACK, 0)]),
    "BadDeed": (
        None,
        [
            lambda: Book().do(()), lambda: Book().do(("undo",)), lambda: Book().do(("place",)),
            lambda: Book().do(("place", 9, 9))
        ]
    ),
    "BadRoom": (None, [lambda: Book().do(("place", 4)), lambda: book(PLACE).do(("tie", 1, 1, -1, (), ()))]),
    "Tied": (None, [lambda: book(PLACE, TIE).do(("shut", 1))]),
    "BadTable": (
        None,
        [lambda: book(PLACE).do(TIE[:5] + ((),)), lambda: book(PLACE, TIE).do(("change", 1, 1, table(0, (100,))))]
    ),
    "BadEnd": (None, [lambda: book(PLACE, TIE).do(("change", 1, 2, ()))]),
    "BadColumn": (None, [lambda: book(PLACE).do(("say", 1, ())), lambda: book(PLACE).do(("say", 1, row(0, 100)))]),
    "NotSaid": (None, [lambda: book(PLACE).do(("unsay", 1))]),
    "Empty": (None, [
        lambda: Book().web(), lambda: Book().sayings(), lambda: Book(5).free(), lambda: Book(5).gap(),
        lambda: Book().sections(), lambda: Book().goes_on(),
        lambda: Book().against(),
    ]),
    "NothingLeft": (None, [lambda: Book().undo(), lambda: Book().redo(), lambda: book(PLACE).redo()]),
    "BadText": (
        0,
        [
            lambda: read_deed(0, "place 01"), lambda: read_deed(5, "say 1 -1"), lambda: read_page(""),
            lambda: read_page("field 4\nplace 1")
        ]
    ),
    "NoPlace": (None, [
        lambda: way(WEB, 0, 2), lambda: gone(WEB, 2, (), []), lambda: kept_columns(WEB, 2),
        lambda: Book().do(("shut", 1)), lambda: book(PLACE).do(("say", 2, ())),
        lambda: book(PLACE).do(("tie", 1, 2, 9, (), ())), lambda: Book().do(("unsay", 1)),
    ]),
    "NoTie": (None, [
        lambda: ring(WEB, 1), lambda: drawn(WEB, -1), lambda: drawn_back(WEB, 1, []), lambda: between(FULL, 1),
        lambda: Book().do(("cut", 1)),
        lambda: Book().do(("change", 1, 9, ())),
    ]),
    "NoRow": (None, [lambda: Kept(0, 1).drop(1), lambda: filled().drop(61)]),
    "NoSection": (None, [
        lambda: factors_of(WEB, ONES), lambda: numbered((5, (1,), ()), 5),
        lambda: number_of((5, (1,), (DOUBLING,)), [(ONE,)]), lambda: factors_of((5, (1,), (DOUBLING,)), [(ONE,)]),
        lambda: glued(WEB, [0, 1], [1], ONES, ONES[:1]),
        lambda: drawn_back((5, (1, 1), ((0, 1, 1, unit(1), unit(1)), DOUBLING)), 0, [(ONE,)]),
    ]),
}
FIELDS = {"NoWay": "at", "Unlike": "place", "BadText": "row"}
OF_MISSING = ("NoPlace", "NoTie", "NoRow", "NoSection")


def raised(call):
    """What the call is refused with."""
    try:
        call()
    except (errors.WebError, errors.Missing) as refusal:
        return refusal
    raise AssertionError("the call is not refused")


class Refusals(Case):
    def test_there_is_a_cause_for_each(self):
        named = {name for name in vars(errors) if name[0].isupper()} - {"WebError", "Missing"}
        self.assertEqual(set(CAUSES), named)

    def test_class_word_and_field_of_each(self):
        for name, (worth, calls) in CAUSES.items():
            for at, call in enumerate(calls):
                with self.subTest(name, at=at):
                    refusal = raised(call)
                    self.assertIs(refusal.__class__, getattr(errors, name))
                    self.assertEqual(refusal.word, name.lower())
                    for owner, field in FIELDS.items():
                        self.assertEqual(hasattr(refusal, field), owner == name)
                    if name in FIELDS:
                        self.assertEqual(getattr(refusal, FIELDS[name]), worth)

    def test_under_what_each_stands(self):
        for name, (_, calls) in CAUSES.items():
            refusal = raised(calls[0])
            missing = name in OF_MISSING
            self.assertEqual(refusal.__class__.__bases__, (errors.Missing if missing else errors.WebError,))
            self.assertEqual(
                (isinstance(refusal, ValueError), isinstance(refusal, LookupError)), (not missing, missing)
            )
            under = [other for other in CAUSES if isinstance(refusal, getattr(errors, other))]
            self.assertEqual(under, [name])

    def test_fields_tell_where(self):
        for at in range(4):
            steps = [(0, True)] * at + [(1, True)]
            self.refuses(errors.NoWay, gone, SLACK, 0, (ONE,), steps, at=at)
            self.refuses(errors.BadText, read_page, "\n".join(["field 0"] + ["place 1"] * at + ["place 4"]), row=at + 1)
        web = (0, (1,) * 4, ())
        for at in range(4):
            other = [(ONE,)] * 4
            other[at] = noughts(1)
            self.refuses(errors.Unlike, glued, web, [0, 1, 2, 3], [0, 1, 2, 3], [(ONE,)] * 4, other, place=at)


if __name__ == "__main__":
    unittest.main()
