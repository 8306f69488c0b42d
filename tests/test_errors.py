import inspect
import unittest

from stalkweb import errors

OF_WEB = (
    "BadField", "BadNumber", "Nought", "BadShape", "BadWeb", "BadWhole", "BadAsk", "BadSaying", "BadSteps",
    "NoWay", "BadView", "Unlike", "Full", "NoSquares", "NoMap", "NoEnd", "NotStiff", "BadDeed", "BadRoom",
    "Tied", "BadTable", "BadEnd", "BadColumn", "NotSaid", "Empty", "NothingLeft", "BadText",
)
OF_MISSING = ("NoPlace", "NoTie", "NoRow", "NoSection")
FIELDS = {"NoWay": "at", "Unlike": "place", "BadText": "row"}


def made(name):
    """An error of this name, made with its field where it has one."""
    kind = getattr(errors, name)
    return kind(3) if name in FIELDS else kind()


class Standing(unittest.TestCase):
    def test_web_error_is_a_value_error(self):
        self.assertEqual(errors.WebError.__bases__, (ValueError,))
        self.assertFalse(issubclass(errors.WebError, LookupError))

    def test_missing_is_a_lookup_error(self):
        self.assertEqual(errors.Missing.__bases__, (LookupError,))
        self.assertFalse(issubclass(errors.Missing, ValueError))
        self.assertFalse(issubclass(errors.Missing, errors.WebError))

    def test_refusals_stand_straight_under_web_error(self):
        for name in OF_WEB:
            with self.subTest(name):
                self.assertEqual(getattr(errors, name).__bases__, (errors.WebError,))

    def test_what_is_missing_stands_straight_under_missing(self):
        for name in OF_MISSING:
            with self.subTest(name):
                self.assertEqual(getattr(errors, name).__bases__, (errors.Missing,))

    def test_all_are_defined_here_and_no_others(self):
        found = {name for name, kind in inspect.getmembers(errors, inspect.isclass)}
        self.assertEqual(found, {"WebError", "Missing", *OF_WEB, *OF_MISSING})
        for name in found:
            self.assertEqual(getattr(errors, name).__module__, "stalkweb.errors")
            self.assertEqual(getattr(errors, name).__name__, name)


class Raising(unittest.TestCase):
    def test_caught_by_the_class_above_and_by_python_s_own(self):
        for name in OF_WEB:
            for above in (errors.WebError, ValueError):
                with self.subTest(name), self.assertRaises(above) as caught:
                    raise made(name)
                self.assertIs(caught.exception.__class__, getattr(errors, name))
        for name in OF_MISSING:
            for above in (errors.Missing, LookupError):
                with self.subTest(name), self.assertRaises(above) as caught:
                    raise made(name)
                self.assertIs(caught.exception.__class__, getattr(errors, name))

    def test_told_apart(self):
        for name in OF_WEB + OF_MISSING:
            for other in OF_WEB + OF_MISSING:
                self.assertEqual(isinstance(made(name), getattr(errors, other)), name == other)

    def test_a_wording_may_be_given_to_those_without_a_field(self):
        for name in OF_WEB + OF_MISSING:
            if name not in FIELDS:
                self.assertEqual(str(getattr(errors, name)("why")), "why")


class Fields(unittest.TestCase):
    def test_word_is_the_name_in_small_letters(self):
        for name in OF_WEB + OF_MISSING:
            with self.subTest(name):
                self.assertEqual(made(name).word, name.lower())
        self.assertEqual(errors.NoWay(0).word, "noway")
        self.assertEqual(errors.NothingLeft().word, "nothingleft")
        self.assertEqual(errors.NoSection().word, "nosection")

    def test_fields_by_position(self):
        for place in (0, 1, 7, 59):
            self.assertEqual(errors.NoWay(place).at, place)
            self.assertEqual(errors.Unlike(place).place, place)
            self.assertEqual(errors.BadText(place).row, place)

    def test_fields_by_name(self):
        self.assertEqual(errors.NoWay(at=4).at, 4)
        self.assertEqual(errors.Unlike(place=5).place, 5)
        self.assertEqual(errors.BadText(row=6).row, 6)

    def test_row_is_nought_where_it_is_left_out(self):
        self.assertEqual(errors.BadText().row, 0)
        self.assertEqual(errors.BadText().word, "badtext")

    def test_the_other_fields_can_not_be_left_out(self):
        for name in ("NoWay", "Unlike"):
            with self.assertRaises(TypeError):
                getattr(errors, name)()

    def test_fields_stand_on_their_own_classes_only(self):
        for name in OF_WEB + OF_MISSING:
            for owner, field in FIELDS.items():
                self.assertEqual(hasattr(made(name), field), name == owner)

    def test_objects_keep_their_own_fields(self):
        one, other = errors.BadText(1), errors.BadText(2)
        self.assertEqual((one.row, other.row), (1, 2))


if __name__ == "__main__":
    unittest.main()
