"""Promise 3 and the list of errors in the interface."""

import unittest

from betweenlooks import errors
from betweenlooks.clashes import Clash
from betweenlooks.histories import History

FIELDS = {
    "BadDeeds": ("index",), "TooMany": ("what", "many", "most"), "BadRow": ("index",), "BadTell": ("index",),
    "Uneven": ("many", "most"), "BadState": ("state",), "NoDeed": ("index",), "OtherDeeds": ("have", "want"),
    "NoEntry": ("tell",), "BadAct": ("states",), "BadNumber": ("number",), "BadKind": ("kind",),
    "OtherKind": ("have", "want"), "BadStretch": ("index",), "BadLook": ("k",), "BadPlace": ("index",),
    "BadText": ("line",), "BadRule": ("rule",), "CannotBe": ("reading",), "NoHistory": ("answer",),
    "BadWord": ("word",), "BadMove": ("key",), "NoMove": ("index",), "Clashes": ("clash",),
    "BadValue": ("value",), "NoMark": (), "NoLeast": ("kind", "rule"), "BadLine": ("index",), "BadWay": ("way",),
    "BadMark": ("index",), "BadPrice": ("index",), "BadIndex": ("index",), "NoRead": ("mark",),
    "BadRead": ("index",), "BadPick": ("index",), "BadSame": ("index",), "BadWant": ("index",),
    "BadWhen": ("when",), "BadName": ("name",), "NoSteps": (), "TooLong": ("index",), "Refused": ("name", "clash"),
}


class Errors(unittest.TestCase):
    def test_the_base_is_a_value_error(self):
        self.assertTrue(issubclass(errors.LooksError, ValueError))

    def test_there_are_these_and_no_others(self):
        defined = [name for name, value in vars(errors).items() if isinstance(value, type)]
        self.assertEqual(sorted(defined), sorted([*FIELDS, "LooksError"]))

    def test_each_is_a_direct_subclass_defined_here(self):
        for name in FIELDS:
            with self.subTest(name):
                made = getattr(errors, name)
                self.assertEqual(made.__bases__, (errors.LooksError,))
                self.assertEqual(made.__module__, "betweenlooks.errors")

    def test_fields_by_position_are_attributes(self):
        for name, fields in FIELDS.items():
            with self.subTest(name):
                given = [object() for _ in fields]
                error = getattr(errors, name)(*given)
                self.assertEqual(list(vars(error)), list(fields))
                for field, value in zip(fields, given):
                    self.assertIs(getattr(error, field), value)

    def test_fields_by_name(self):
        for name, fields in FIELDS.items():
            with self.subTest(name):
                given = {field: object() for field in fields}
                self.assertEqual(vars(getattr(errors, name)(**given)), given)

    def test_fields_are_neither_left_out_nor_added(self):
        for name, fields in FIELDS.items():
            if fields:
                with self.subTest(name):
                    with self.assertRaises(TypeError):
                        getattr(errors, name)(*fields[1:])
                    with self.assertRaises(TypeError):
                        getattr(errors, name)(*fields, "more")

    def test_fields_of_all_kinds(self):
        clash = Clash(History.read("|"), History.read("x |"))
        values = [0, 10 ** 30, "x", ("x", "y"), (), None, True, 1.5, [1], {"x": 1}, clash, object()]
        for name, fields in FIELDS.items():
            for shift in range(len(values)):
                given = [values[(shift + k) % len(values)] for k in range(len(fields))]
                error = getattr(errors, name)(*given)
                for field, value in zip(fields, given):
                    self.assertIs(getattr(error, field), value)

    def test_they_are_raised_and_caught(self):
        for name, fields in FIELDS.items():
            with self.subTest(name):
                with self.assertRaises(ValueError):
                    raise getattr(errors, name)(*fields)
                try:
                    raise getattr(errors, name)(*fields)
                except errors.LooksError as error:
                    kinds = [kind for kind in vars(errors).values()
                             if isinstance(kind, type) and isinstance(error, kind)]
                    self.assertEqual(sorted(kind.__name__ for kind in kinds), sorted([name, "LooksError"]))


if __name__ == "__main__":
    unittest.main()
