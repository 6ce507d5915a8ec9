"""What the tests share: values of all kinds, and a check of raised errors."""

import unittest

from signtown import errors, streets


def package_objects():
    """An object of each kind that the package has so far."""
    return [
        streets.Lane("a", "b", "c"),
        streets.Avenue("a", "b", "c"),
        streets.Road("a", "b", "c", 1, 2),
        errors.BadName("a"),
        errors.BadText(0, 1),
        errors.Barred(None),
        errors.Empty(),
    ]


def nested(depth):
    """A list, a tuple and a dict by turns, nested so deep, around a name."""
    value = "a"
    for level in range(depth):
        value = [[value], (value,), {"a": value}][level % 3]
    return value


def no_strings():
    """Values of all kinds but strings and integers."""
    return [
        None, True, False,
        (), ("a",), ("a", "b"), (1, 2), [], ["a"], ["a", "b"], [1], {}, {"a": "b"}, {"a": 1}, {1: "a"},
        nested(8), ["a"] * 2000, (0,) * 2000,
    ] + package_objects()


def integers():
    """Integers about the bounds that the document names, and far ones."""
    return [
        0, 1, -1, 2, 20, 21, 10 ** 12 - 1, 10 ** 12, 1 - 10 ** 12, -10 ** 12, 10 ** 60 - 1, 1 - 10 ** 60,
    ]


def other_strings():
    """Strings that are no names."""
    return [
        "", " ", "abcdefghi", "a" * 9, "a" * 2000, "A", "Z", "aB", "a1", "1", "0", "-", "_", "a_b", "a b", " a", "a ",
        "a\n", "\na", "\n", "a\nb", "a,b", "a.b", "`", "{", "@", "[", "~", "'a'", "None", "lane a b c",
    ]


def no_names():
    """Values of all kinds that are no names."""
    return no_strings() + integers() + other_strings()


def no_prices():
    """Values of all kinds that are no prices; None is among them."""
    return no_strings() + other_strings() + ["a", "5"] + [
        10 ** 12, -10 ** 12, 10 ** 12 + 1, -10 ** 12 - 1, 10 ** 60 - 1, 1 - 10 ** 60,
    ]


def all_values():
    """Values of all kinds."""
    return no_names() + ["a", "b", "c", "z", "abcdefgh"]


class Case(unittest.TestCase):
    """A test case that can look at the class and the fields of an error."""

    def check_raises(self, error, fields, call, *values, **named):
        """The call raises just this class of error, with just these fields: the same kinds, too."""
        with self.assertRaises(errors.TownError) as caught:
            call(*values, **named)
        self.assertIs(error, type(caught.exception))
        self.assertEqual(sorted(fields), sorted(vars(caught.exception)))
        for name, field in fields.items():
            found = getattr(caught.exception, name)
            self.assertIs(type(field), type(found))
            self.assertEqual(field, found)

    def check_same(self, wanted, found):
        """The values are equal and of one kind: True is not 1."""
        self.assertIs(type(wanted), type(found))
        self.assertEqual(wanted, found)
