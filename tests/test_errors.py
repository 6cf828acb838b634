import unittest

from menuhouses import errors
from menuhouses.rankings import Ranking
from support import odd_values

BASES = {"WrongValue": ValueError, "WrongName": LookupError, "NoAnswer": ArithmeticError}

ERRORS = {
    "WrongValue": {
        "InvalidText": ("given",), "InvalidMarks": ("given",), "InvalidIndex": ("given",), "InvalidWord": ("given",),
        "NotARanking": ("given",), "NotAHouse": ("given",), "NotALook": ("given",), "NotLooks": ("given",),
        "OtherThings": ("given",), "InvalidRow": ("index",), "InvalidMenu": ("index",), "InvalidThings": ("index",),
        "InvalidTaken": ("index",), "InvalidRankings": ("index",), "InvalidLooks": ("index",),
        "InvalidTable": ("index",),
    },
    "WrongName": {"UnknownThing": ("given",)},
    "NoAnswer": {
        "TooMany": ("number",), "NoHouse": ("menu",), "NoTable": ("first", "second"), "Clash": ("index",),
        "Broken": ("index",), "NothingToUndo": (),
    },
}

EACH = [(base, name, kept) for base, names in ERRORS.items() for name, kept in names.items()]


class Errors(unittest.TestCase):
    def assert_kept(self, error, names, values):
        self.assertEqual(sorted(vars(error)), sorted(names))
        for name, value in zip(names, values):
            self.assertIs(getattr(error, name), value)

    def test_there_are_twenty_three(self):
        self.assertEqual(len(EACH), 23)

    def test_made_by_position_they_keep_any_values(self):
        values = odd_values() + [0, "a", Ranking.of("a"), errors.InvalidRow(0)]
        for _, name, kept in EACH:
            kind = getattr(errors, name)
            for value, next_value in zip(values, values[1:]):
                told = (value, next_value)[:len(kept)]
                self.assert_kept(kind(*told), kept, told)

    def test_made_by_name_they_keep_any_values(self):
        values = odd_values() + [0, "a", Ranking.of("a"), errors.InvalidRow(0)]
        for _, name, kept in EACH:
            kind = getattr(errors, name)
            for value, next_value in zip(values, values[1:]):
                told = (value, next_value)[:len(kept)]
                named = dict(zip(kept, told))
                self.assert_kept(kind(**named), kept, told)

    def test_by_name_the_order_is_free(self):
        self.assert_kept(errors.NoTable(second=2, first=1), ("first", "second"), (1, 2))

    def test_each_attribute_is_to_be_told(self):
        for _, name, kept in EACH:
            if kept:
                with self.assertRaises(TypeError):
                    getattr(errors, name)(*[0] * (len(kept) - 1))

    def test_bases_are_the_listed_ones_and_no_others(self):
        for base, name, _ in EACH:
            kind = getattr(errors, name)
            above = (getattr(errors, base), BASES[base])
            self.assertEqual(kind.__mro__[1:3], above)
            own = [each.__name__ for each in kind.__mro__ if each.__module__.startswith("menuhouses")]
            self.assertEqual(own, [name, base])

    def test_base_classes_are_errors_of_one_class_of_python_alone(self):
        for base, above in BASES.items():
            kind = getattr(errors, base)
            self.assertEqual(kind.__bases__, (above,))
            for other in BASES:
                self.assertEqual(issubclass(kind, getattr(errors, other)), other == base)

    def test_they_are_caught_by_their_class_and_its_bases(self):
        for base, name, kept in EACH:
            kind = getattr(errors, name)
            for caught in (kind, getattr(errors, base), BASES[base]):
                with self.assertRaises(caught):
                    raise kind(*[0] * len(kept))
            for other in BASES:
                if other != base:
                    self.assertFalse(issubclass(kind, getattr(errors, other)))
                    self.assertFalse(issubclass(kind, BASES[other]))

    def test_no_error_belongs_to_another_one(self):
        for _, one, _ in EACH:
            for _, other, _ in EACH:
                self.assertEqual(issubclass(getattr(errors, one), getattr(errors, other)), one == other)

    def test_all_are_defined_in_the_file_of_errors(self):
        for name in list(BASES) + [name for _, name, _ in EACH]:
            self.assertEqual(getattr(errors, name).__module__, "menuhouses.errors")

    def test_they_are_true(self):
        for _, name, kept in EACH:
            self.assertTrue(getattr(errors, name)(*[None] * len(kept)))


if __name__ == "__main__":
    unittest.main()
