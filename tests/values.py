"""What the tests share: values of all kinds, and a check of raised errors."""

import unittest

from signtown import (
    best, choices, counts, desk, errors, greatest, judge, lookers, moves, narrow, signs, steps, streets, towns, wards,
    ways, weights, works)


def some_papers():
    """Papers of all kinds: right ones for some town, and ones that are right nowhere."""
    road, lead = streets.Road("a", "b", "c", 1, 2), signs.Signs({"a": ("b", "c")})
    told = ways.Ways("b", {"c": (("a",),)}, {"c": (("x",),)})
    return [
        ways.Bundle((), wards.Ward("a")), ways.Bundle((("a",),), wards.Ward("c")), told, ways.Ways(None, None, None),
        judge.Sound(told), judge.Sound(None), judge.Short(wards.Ward("a")), judge.Short("a"),
        judge.Strength(0, wards.Ward("a"), None), judge.Strength(1, wards.Ward("a"), told),
        narrow.Turned(lead, told), narrow.Tied(wards.Ward("a")),
        best.Best(1, lead, told, weights.Weights({})), best.Best(None, None, None, None),
        best.Never(weights.Weights({("a",): 1})), best.Never(road),
        counts.CountSpan(0, 1, None, None), counts.Counted(lead), counts.Crowded(("a", "b")),
        moves.Moved(moves.Turn(("a",), "b", "c"), lead, told), moves.Stuck(wards.Ward("a")),
        steps.Step(moves.Turn(("a",), "b", "c"), lead), steps.Step(None, None),
        choices.Choice("a", best.Never(weights.Weights({})), None),
        greatest.Greatest(0, None, best.Never(weights.Weights({("a",): 1}))), greatest.Greatest(1, None, None),
    ]


def package_objects():
    """An object of each kind that the package has."""
    return some_papers() + [
        weights.Weights({}),
        weights.Weights({("a",): 1, ("b", "c"): 10 ** 59}),
        moves.Turn(("a", "b"), "b", "c"),
        lookers.Looker(towns.Town(streets.Lane("a", "b", "c")), 1),
        works.Works(towns.Town()), works.Works(towns.Town(streets.Road("a", "b", "c", 1, 2)), 2), desk.Desk(),
        streets.Lane("a", "b", "c"),
        streets.Avenue("a", "b", "c"),
        streets.Road("a", "b", "c", 1, 2),
        wards.Ward("a"),
        wards.Ward("b", "c"),
        towns.Town(),
        towns.Town(streets.Road("a", "b", "c", 1, 2)),
        signs.Signs({}),
        signs.Signs({"a": ("b", "c")}),
        errors.BadName("a"),
        errors.BadText(0, 1),
        errors.Barred(None),
        errors.Empty(),
    ]


def nested(depth):
    """A list, a tuple and a dict by turns, nested so deep, around a name."""
    value = "a"
    for level in range(depth):
        value = [[value], (value,), {"a": value}][level % 3]
    return value


def no_strings():
    """Values of all kinds but strings and integers."""
    return [
        None, True, False,
        (), ("a",), ("a", "b"), (1, 2), [], ["a"], ["a", "b"], [1], {}, {"a": "b"}, {"a": 1}, {1: "a"},
        nested(8), ["a"] * 2000, (0,) * 2000,
    ] + package_objects()


def integers():
    """Integers about the bounds that the document names, and far ones."""
    return [
        0, 1, -1, 2, 20, 21, 10 ** 12 - 1, 10 ** 12, 1 - 10 ** 12, -10 ** 12, 10 ** 60 - 1, 1 - 10 ** 60,
    ]


def other_strings():
    """Strings that are no names."""
    return [
        "", " ", "abcdefghi", "a" * 9, "a" * 2000, "A", "Z", "aB", "a1", "1", "0", "-", "_", "a_b", "a b", " a", "a ",
        "a\n", "\na", "\n", "a\nb", "a,b", "a.b", "`", "{", "@", "[", "~", "'a'", "None", "lane a b c",
    ]


def no_names():
    """Values of all kinds that are no names."""
    return no_strings() + integers() + other_strings()


def no_prices():
    """Values of all kinds that are no prices; None is among them."""
    return no_strings() + other_strings() + ["a", "5"] + [
        10 ** 12, -10 ** 12, 10 ** 12 + 1, -10 ** 12 - 1, 10 ** 60 - 1, 1 - 10 ** 60,
    ]


def all_values():
    """Values of all kinds."""
    return no_names() + ["a", "b", "c", "z", "abcdefgh"]


def values_but(*kinds):
    """Values of all kinds but these classes."""
    return [value for value in all_values() if not isinstance(value, kinds)]


def shown(value):
    """All that an object of the package or a container of some tells, as plain values."""
    if isinstance(value, streets.Street):
        return [type(value).__name__, str(value)]
    if isinstance(value, wards.Ward):
        return ["Ward", value.corners, str(value), len(value), list(value)]
    if isinstance(value, towns.Town):
        return ["Town", value.names, value.corners, value.roads, value.is_plain, len(value),
                [shown(street) for street in value]]
    if isinstance(value, signs.Signs):
        return ["Signs", value.names, value.parts, len(value), list(value)]
    if isinstance(value, weights.Weights):
        return ["Weights", value.parts, len(value), [str(ward) for ward in value]]
    if type(value).__module__.startswith("signtown."):
        return [type(value).__name__, shown(vars(value))]
    if isinstance(value, dict):
        return ["dict", [(key, shown(value[key])) for key in value]]
    if isinstance(value, (list, tuple)):
        return [type(value).__name__, [shown(part) for part in value]]
    return [type(value).__name__, value]


class Case(unittest.TestCase):
    """A test case that can look at the class and the fields of an error."""

    def check_raises(self, error, fields, call, *values, **named):
        """The call raises just this class of error, with just these fields: the same kinds, too."""
        with self.assertRaises(errors.TownError) as caught:
            call(*values, **named)
        self.assertIs(error, type(caught.exception))
        self.assertEqual(sorted(fields), sorted(vars(caught.exception)))
        for name, field in fields.items():
            found = getattr(caught.exception, name)
            self.assertIs(type(field), type(found))
            self.assertEqual(field, found)

    def check_stays(self, kept, call, *values, **named):
        """What the call returns; the kept values are behind it as they were."""
        before = shown(kept)
        found = call(*values, **named)
        self.assertEqual(before, shown(kept))
        return found

    def check_refused(self, kept, error, fields, call, *values, **named):
        """The call raises just this error, and changes none of the kept values."""
        before = shown(kept)
        self.check_raises(error, fields, call, *values, **named)
        self.assertEqual(before, shown(kept))

    def check_unlike(self, one, other):
        """The values are unlike, whichever stands first."""
        self.assertIs(False, one == other)
        self.assertIs(False, other == one)
        self.assertIs(True, one != other)
        self.assertIs(True, other != one)

    def check_equal(self, one, other):
        """The values are equal, whichever stands first."""
        self.assertIs(True, one == other)
        self.assertIs(True, other == one)
        self.assertIs(False, one != other)
        self.assertIs(False, other != one)

    def check_same(self, wanted, found):
        """The values are equal and of one kind: True is not 1."""
        self.assertIs(type(wanted), type(found))
        self.assertEqual(wanted, found)
