"""signtown/errors.py: what each error keeps, and what it stands below."""

import unittest

from signtown import errors
from values import Case, all_values

FIELDS = {
    "TownError": (), "BadInput": (), "Refused": (), "NoAnswer": (), "Barred": ("weights",),
    "BadName": ("value",), "BadPrice": ("value",), "BadNeed": ("value",), "BadStreet": ("part",),
    "BadTown": ("part",), "BadWard": ("part",), "BadSigns": ("part",), "BadWeights": ("part",),
    "BadText": ("line", "word"), "BadLine": ("word",),
    "NoCorner": ("name",), "NoStreet": ("name",), "NoRoad": ("name",), "NoSign": ("name",),
    "NotAlong": ("name",), "Level": ("corner",), "Unlike": ("part",), "TooMany": ("what", "most"),
    "NotGood": ("need",), "Empty": (), "NoSigns": (), "NoDeed": (),
}

BELOW = {
    "TownError": ["BadInput", "Refused", "NoAnswer", "Barred"],
    "BadInput": [
        "BadName", "BadPrice", "BadNeed", "BadStreet", "BadTown", "BadWard", "BadSigns", "BadWeights",
        "BadText", "BadLine",
    ],
    "Refused": [
        "NoCorner", "NoStreet", "NoRoad", "NoSign", "NotAlong", "Level", "Unlike", "TooMany", "NotGood",
    ],
    "NoAnswer": ["Empty", "NoSigns", "NoDeed"],
}


class Untouchable:
    """A value that fails if anything looks at it."""

    def fail(self, *values):
        raise AssertionError("somebody looked at a field")

    __repr__ = __str__ = __eq__ = __hash__ = __bool__ = __len__ = __iter__ = __contains__ = fail


def error_named(name):
    return getattr(errors, name)


def ancestors(name):
    """The names of all errors above this one."""
    above = [upper for upper in BELOW if name in BELOW[upper]]
    return above + [further for upper in above for further in ancestors(upper)]


class ErrorsTest(Case):
    def test_just_these_errors_are_there(self):
        found = [name for name, value in vars(errors).items() if isinstance(value, type)]
        self.assertEqual(sorted(FIELDS), sorted(found))

    def test_made_by_position_with_any_values(self):
        for name, fields in FIELDS.items():
            for value in all_values():
                parts = [[value, at] for at in range(len(fields))]
                made = error_named(name)(*parts)
                self.assertEqual(sorted(fields), sorted(vars(made)))
                for field, part in zip(fields, parts):
                    self.assertIs(part, getattr(made, field), name)

    def test_made_with_plain_values_by_position_and_by_name(self):
        for name, fields in FIELDS.items():
            for value in all_values():
                for made in (error_named(name)(*[value for _ in fields]),
                             error_named(name)(**{field: value for field in fields})):
                    for field in fields:
                        self.assertIs(value, getattr(made, field), name)

    def test_made_by_the_names_of_the_fields_in_any_order(self):
        for name, fields in FIELDS.items():
            parts = {field: [field] for field in reversed(fields)}
            made = error_named(name)(**parts)
            for field in fields:
                self.assertIs(parts[field], getattr(made, field), name)

    def test_fields_are_asked_for(self):
        for name, fields in FIELDS.items():
            if fields:
                self.assertRaises(TypeError, error_named(name))
                self.assertRaises(TypeError, error_named(name), *range(len(fields) + 1))

    def test_looks_at_nothing(self):
        for name, fields in FIELDS.items():
            parts = [Untouchable() for _ in fields]
            for made in (error_named(name)(*parts), error_named(name)(**dict(zip(fields, parts)))):
                for field, part in zip(fields, parts):
                    self.assertIs(part, getattr(made, field), name)

    def test_stands_below_what_is_told(self):
        self.assertEqual((ValueError,), errors.TownError.__bases__)
        for upper, names in BELOW.items():
            for name in names:
                self.assertEqual((error_named(upper),), error_named(name).__bases__, name)

    def test_stands_below_nothing_else(self):
        for name in FIELDS:
            for other in FIELDS:
                wanted = name == other or other in ancestors(name)
                self.assertIs(wanted, issubclass(error_named(name), error_named(other)), (name, other))
            for other in (TypeError, LookupError, KeyError, IndexError, ArithmeticError, RuntimeError, UnicodeError):
                self.assertFalse(issubclass(error_named(name), other), (name, other))

    def test_raised_and_caught_as_what_it_stands_below(self):
        for name, fields in FIELDS.items():
            for above in [name, *ancestors(name)]:
                with self.assertRaises(error_named(above)):
                    raise error_named(name)(*fields)
            with self.assertRaises(ValueError):
                raise error_named(name)(*fields)

    def test_barred_as_a_cause(self):
        weights = [1]
        with self.assertRaises(errors.NoSigns) as caught:
            raise errors.NoSigns() from errors.Barred(weights)
        self.assertIs(errors.Barred, type(caught.exception.__cause__))
        self.assertIs(weights, caught.exception.__cause__.weights)


if __name__ == "__main__":
    unittest.main()
