import unittest

from handlerims import errors
from tests.cases import WRONG

FIELDS = {
    "BadWord": ("part",), "BadRims": ("part",), "BadSewing": ("part",), "BadBag": ("part",),
    "BadWeighing": ("part",), "BadNumber": ("part",), "BadPaper": ("part",), "BadDesk": ("part",),
    "Misfit": ("part",), "Missing": ("value",), "NoPlace": ("value",), "NoLetter": ("value",),
    "NoName": ("value",), "Twice": ("value",), "Unbalanced": ("kind",), "Impossible": ("paper",),
    "TooMany": ("what", "most"), "Nothing": (), "BadText": ("line", "item"), "BadLine": ("line", "error"),
}


class Errors(unittest.TestCase):
    def test_these_and_no_others_are_defined(self):
        found = {name for name, value in vars(errors).items() if isinstance(value, type)}
        self.assertEqual(found, set(FIELDS) | {"HandleError"})

    def test_the_classes_above(self):
        self.assertEqual(errors.HandleError.__bases__, (ValueError,))
        for name in FIELDS:
            above = errors.Missing if name in ("NoPlace", "NoLetter", "NoName") else errors.HandleError
            self.assertEqual(getattr(errors, name).__bases__, (above,), name)

    def test_fields_by_place_and_by_name_any_values(self):
        for name, fields in FIELDS.items():
            made = getattr(errors, name)
            for value in WRONG + (3, -10 ** 5000):
                for error in (made(*[value for _ in fields]), made(**{field: value for field in fields})):
                    self.assertEqual(list(vars(error)), list(fields))
                    for field in fields:
                        self.assertIs(getattr(error, field), value)

    def test_fields_in_their_order(self):
        error = errors.TooMany("letters", 500)
        self.assertEqual((error.what, error.most), ("letters", 500))
        error = errors.BadText(0, 7)
        self.assertEqual((error.line, error.item), (0, 7))
        inner = errors.NoName("a")
        error = errors.BadLine(1, inner)
        self.assertEqual(error.line, 1)
        self.assertIs(error.error, inner)

    def test_a_list_is_kept_as_it_is(self):
        value = [1, [2]]
        self.assertIs(errors.NoLetter(value).value, value)
        self.assertEqual(value, [1, [2]])

    def test_as_many_fields_as_told(self):
        for name, fields in FIELDS.items():
            if fields:
                with self.assertRaises(TypeError):
                    getattr(errors, name)()
                with self.assertRaises(TypeError):
                    getattr(errors, name)(*fields, 1)
