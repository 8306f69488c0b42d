"""Each function and method once with its arguments passed by name in another order, and what may be left out."""

import importlib
import inspect
import unittest

from helpers import ONE, row, table, unit
from stalkweb.book import Book
from stalkweb.desk import Desk
from stalkweb.errors import BadText
from stalkweb.kept import Kept
from stalkweb.numbers import made
from test_package import INTERFACE, METHODS

WEB = (5, (1, 1), ((0, 1, 1, table(5, (2,)), unit(1)), (1, 0, 1, unit(1), table(5, (2,)))))
HALVES = (0, (1, 1), ((0, 1, 1, table(0, (2,)), unit(1)),))
WHOLE = [row(5, 2), row(5, 4)]
MAP = [table(5, (3,))] * 2
# Arguments of each function, by the names that the document shows.
GIVEN = {
    "numbers": {
        "is_field": {"field": 5}, "is_number": {"field": 5, "number": (5, 1)},
        "made": {"field": 5, "top": 7, "bottom": 3},
        "plus": {"field": 5, "one": (3, 1), "other": (4, 1)}, "times": {"field": 5, "one": (3, 1), "other": (4, 1)},
        "less": {"field": 5, "number": (3, 1)}, "over": {"field": 5, "number": (3, 1)},
    },
    "rows": {
        "reduced": {"field": 5, "rows": [row(5, 2, 1)], "width": 2},
        "rank": {"field": 5, "rows": [row(5, 2, 1)], "width": 2},
        "null_base": {"field": 5, "rows": [row(5, 2, 1)], "width": 2},
        "met": {"field": 5, "rows": [row(5, 2, 1)], "width": 2, "ask": row(5, 3)},
        "barred": {"field": 5, "rows": [row(5, 0, 0)], "width": 2, "ask": row(5, 3)},
    },
    "tables": {
        "lead": {"field": 5, "table": table(5, (1, 2)), "column": row(5, 3, 4)},
        "behind": {"field": 5, "table": table(5, (1, 2)), "other": table(5, (1, 0), (3, 4))},
        "still": {"field": 5, "room": 2}, "turned_back": {"field": 5, "table": table(5, (2,))},
    },
    "kept": {"Kept": {"field": 5, "width": 2}},
    "webs": {
        "is_web": {"web": WEB}, "great_rows": {"web": WEB}, "width_of": {"web": WEB},
        "differences": {"web": WEB, "whole": WHOLE}, "agrees": {"web": WEB, "whole": WHOLE},
    },
    "whole": {
        "sections": {"web": WEB}, "free": {"web": WEB}, "sum_of": {"web": WEB, "factors": [(3, 1)]},
        "factors_of": {"web": WEB, "whole": WHOLE},
        "count": {"web": WEB}, "numbered": {"web": WEB, "number": 3}, "number_of": {"web": WEB, "whole": WHOLE},
    },
    "gaps": {
        "bars": {"web": WEB}, "gap": {"web": WEB}, "meets": {"web": WEB, "asks": [row(5, 1), row(5, 4)]},
        "stands_against": {"web": WEB, "asks": [row(5, 1), row(5, 1)]},
    },
    "sayings": {
        "goes_on": {"web": WEB, "sayings": [(1, row(5, 3))]},
        "against": {"web": HALVES, "sayings": [(0, (ONE,)), (1, (ONE,))]},
    },
    "rings": {
        "pieces": {"web": WEB}, "wood": {"web": WEB}, "ring": {"web": WEB, "tie": 1},
        "way": {"web": WEB, "place": 1, "other": 0}
    },
    "goings": {
        "gone": {"web": WEB, "place": 0, "column": row(5, 3), "steps": [(0, True)]},
        "turning": {"web": WEB, "place": 0, "steps": [(0, True)]},
        "is_stiff": {"web": WEB}, "kept_columns": {"web": WEB, "place": 1},
    },
    "parts": {
        "view": {"web": WEB, "places": [0]}, "seen": {"web": WEB, "places": [1], "whole": WHOLE},
        "covers": {"web": WEB, "one": [0, 1], "other": [1]},
        "glued": {"web": WEB, "one": [0, 1], "other": [1], "left": WHOLE, "right": WHOLE[1:]},
        "joining": {"web": WEB, "one": [0, 1], "other": [1]},
    },
    "drawn": {
        "drawn": {"web": HALVES, "tie": 0}, "drawn_back": {"web": HALVES, "tie": 0, "whole": [row(0, 3)]},
        "between": {"web": WEB, "tie": 1},
    },
    "nearest": {
        "square": {"field": 0, "whole": [row(0, 3, 4)]}, "nearest": {"web": HALVES, "whole": [row(0, 5), row(0, 0)]}
    },
    "maps": {
        "is_map": {"web": WEB, "other": WEB, "tables": MAP, "tie_tables": MAP},
        "mapped": {"web": WEB, "other": WEB, "tables": MAP, "tie_tables": MAP, "whole": WHOLE},
        "both": {"field": 5, "one": [table(5, (1, 2), (0, 1))], "other": [table(5, (0, 1), (1, 0))]},
    },
    "book": {"Book": {"field": 5}},
    "texts": {"deed_text": {"deed": ("place", 2)}, "read_deed": {"field": 0, "text": "say 1 1/2"}},
    "pages": {"page": {"book": Book(3)}, "read_page": {"text": "field 3\nplace 1"}},
    "desk": {"Desk": {"field": 5}},
}


def told(answer):
    """What was told, in a form that can be held beside another one."""
    return str(answer.book()) if isinstance(answer, Desk) else answer


class Names(unittest.TestCase):
    def test_arguments_by_position_by_name_and_in_another_order(self):
        self.assertEqual(
            {file: set(names) for file, names in GIVEN.items()},
            {file: set(names) for file, names in INTERFACE.items()}
        )
        for file, names in GIVEN.items():
            module = importlib.import_module("stalkweb." + file)
            for name, given in names.items():
                with self.subTest(file=file, name=name):
                    call = getattr(module, name)
                    self.assertEqual(list(inspect.signature(call).parameters), list(given))
                    by_position = told(call(*given.values()))
                    self.assertEqual(told(call(**given)), by_position)
                    self.assertEqual(told(call(**dict(reversed(given.items())))), by_position)

    def test_methods_by_name(self):
        kept = Kept(width=1, field=5)
        self.assertEqual([kept.put(row=row(5, 2)), kept.put(row=row(5, 0))], [1, 2])
        self.assertEqual((kept.holds(row=row(5, 1)), kept.made_of(row=row(5, 4))), (True, [(1, (2, 1))]))
        self.assertEqual(
            (kept.drop(number=2), kept.rank(), kept.rows(), len(kept.twin())), (row(5, 0), 1, [(1, row(5, 2))], 1)
        )
        book = Book(field=5)
        self.assertEqual(book.do(deed=("place", 1)), 1)
        desk = Desk(field=5)
        self.assertEqual((desk.say(line="place 1"), desk.book()), ("1", book))

    def test_what_may_be_left_out(self):
        self.assertEqual((made(5, 7), made(top=7, field=0)), ((2, 1), (7, 1)))
        self.assertEqual((repr(Book()), str(Desk().book())), ("Book(0: 0 places, 0 ties)", "field 0"))
        self.assertEqual((BadText().row, BadText(row=3).row, BadText(4).row), (0, 3, 4))

    def test_methods_take_what_is_shown(self):
        for (file, kind), methods in METHODS.items():
            listed = getattr(importlib.import_module("stalkweb." + file), kind)
            for name in methods:
                self.assertTrue(inspect.isfunction(vars(listed)[name]), name)


if __name__ == "__main__":
    unittest.main()
