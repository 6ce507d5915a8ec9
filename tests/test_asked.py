"""The errors that all functions of towns, signs and needs share: each alone, and several at once."""

import itertools
import unittest

from signtown.best import cheapest
from signtown.choices import choice, sure_signs
from signtown.counts import count_span
from signtown.errors import BadNeed, BadSigns, BadTown, Empty
from signtown.greatest import greatest, shows_greatest
from signtown.judge import judge, shows_strength, shows_verdict, strength
from signtown.lookers import Looker
from signtown.moves import exchange, move
from signtown.narrow import narrow_around, narrow_wards, turn_alone
from signtown.signs import Signs
from signtown.steps import fewest_turns, shows_steps, steps
from signtown.streets import Lane
from signtown.towns import Town
from signtown.ways import bundle, is_walk, shows_bundle, shows_ways, ways_of
from some_towns import triangle
from values import Case, all_values, values_but

RING = Signs({"r": ("a", "b"), "s": ("b", "c"), "t": ("c", "a")})


def all_narrow_wards(town, signs, need):
    return list(narrow_wards(town, signs, need))


def first_of_steps(town, signs, other, need):
    return next(steps(town, signs, other, need), None)


# Of each function its first parameters in their order, then rows of further arguments, right and wrong ones.
FUNCTIONS = [
    (is_walk, ("town", "signs"), [("a", "b", ("r",)), (None, None, None)]),
    (bundle, ("town", "signs"), [("a", "b"), ("a", "a"), (None, "z")]),
    (shows_bundle, ("town", "signs"), [("a", "b", None), ("z", None, None)]),
    (ways_of, ("town", "signs", "need"), [()]),
    (shows_ways, ("town", "signs", "need"), [(None,)]),
    (judge, ("town", "signs", "need"), [()]),
    (shows_verdict, ("town", "signs", "need"), [(None,)]),
    (strength, ("town", "signs"), [()]),
    (shows_strength, ("town", "signs"), [(None,)]),
    (all_narrow_wards, ("town", "signs", "need"), [()]),
    (narrow_around, ("town", "signs", "need"), [("a", "b"), ("a", "a"), (None, "z")]),
    (turn_alone, ("town", "signs", "need"), [("r",), ("z",), (None,)]),
    (cheapest, ("town", "need"), [()]),
    (Looker, ("town", "need"), [()]),
    (count_span, ("town", "need"), [("a",), ("z",), (None,)]),
    (exchange, ("town", "signs", "signs", "need"), [("a",), ("z",), (None,)]),
    (move, ("town", "signs", "need"), [("a", "b"), ("a", "a"), (None, "z")]),
    (first_of_steps, ("town", "signs", "signs", "need"), [()]),
    (fewest_turns, ("town", "signs", "signs"), [()]),
    (shows_steps, ("town", "signs", "signs", "need"), [([],), (None,)]),
    (choice, ("town", "need"), [("r",), ("z",), (None,)]),
    (sure_signs, ("town", "need"), [()]),
    (greatest, ("town",), [()]),
    (shows_greatest, ("town",), [(None,)]),
]
WITHOUT_EMPTY = (is_walk, bundle, shows_bundle, fewest_turns)
RIGHT = {"town": [triangle()], "signs": [RING, ~RING], "need": [1, 20]}
KINDS = {
    "town": [None, (), "town", Signs.none(), [triangle()], Lane("l", "a", "b")],
    "signs": [None, RING.parts, triangle(), (), "r"],
    "need": [0, 21, -1, True, None, "1", (1,), [1]],
}
UNFIT = [RING - "r", Signs.none(), RING | Signs({"z": ("a", "b")}), (RING - "r") | Signs({"r": ("a", "z")})]


def wanted_error(kind, value):
    """The error and its fields of a value for a parameter of this kind; None for a right one."""
    if kind == "town":
        return None if isinstance(value, Town) else (BadTown, {"part": "town"})
    if kind == "need":
        right = isinstance(value, int) and not isinstance(value, bool) and 1 <= value <= 20
        return None if right else (BadNeed, {"value": value})
    if not isinstance(value, Signs):
        return BadSigns, {"part": "signs"}
    return None if value in (RING, ~RING) else (BadSigns, {"part": "roads"})


def alone():
    """Rows of a function and its arguments, where one parameter is wrong, of all kinds of values."""
    wrong = {"town": values_but(Town), "signs": values_but(Signs) + UNFIT,
             "need": [value for value in all_values() if wanted_error("need", value)]}
    for function, kinds, rows in FUNCTIONS:
        for at, kind in enumerate(kinds):
            for value in wrong[kind]:
                values = [RIGHT[other][0] for other in kinds]
                values[at] = value
                yield function, kinds, values, rows


def together():
    """Rows of a function and its arguments, where any of its parameters are right and wrong."""
    choices = {"town": RIGHT["town"] + KINDS["town"], "signs": RIGHT["signs"] + KINDS["signs"] + UNFIT,
               "need": RIGHT["need"] + KINDS["need"]}
    for function, kinds, rows in FUNCTIONS:
        for values in itertools.product(*[choices[kind] for kind in kinds]):
            yield function, kinds, values, rows


class AskedTest(Case):
    def check_first(self, function, kinds, values, rows):
        """The first parameter that is wrong decides; whether there is one."""
        errors = [wanted_error(kind, value) for kind, value in zip(kinds, values)]
        found = [error for error in errors if error is not None]
        if not found:
            return False
        error, fields = found[0]
        for more in rows:
            self.check_raises(error, fields, function, *values, *more)
        return True

    def test_each_alone(self):
        for function, kinds, values, rows in alone():
            self.assertTrue(self.check_first(function, kinds, values, rows))

    def test_two_and_three_at_once(self):
        many = {True: 0, False: 0}
        for row in together():
            many[self.check_first(*row)] += 1
        self.assertGreater(many[True], 5000)
        self.assertGreater(many[False], len(FUNCTIONS))

    def test_arguments_stay(self):
        for function, kinds, values, rows in alone():
            for more in rows[:1]:
                error, fields = [found for found in map(wanted_error, kinds, values) if found is not None][0]
                self.check_refused([*values, *more], error, fields, function, *values, *more)

    def test_towns_without_streets(self):
        for function, kinds, rows in FUNCTIONS:
            if function in WITHOUT_EMPTY:
                continue
            right = {"town": Town(), "signs": Signs.none(), "need": 3}
            for more in rows:
                self.check_raises(Empty, {}, function, *[right[kind] for kind in kinds], *more)
            for at, kind in enumerate(kinds):
                for value in KINDS[kind]:
                    values = [right[other] for other in kinds]
                    values[at] = value
                    error, fields = wanted_error(kind, value)
                    for more in rows:
                        self.check_raises(error, fields, function, *values, *more)

    def test_signs_that_do_not_fit_a_town_without_streets(self):
        for function, kinds, rows in FUNCTIONS:
            if "signs" in kinds:
                values = [{"town": Town(), "signs": RING, "need": 0}[kind] for kind in kinds]
                self.check_raises(BadSigns, {"part": "roads"}, function, *values, *rows[-1])


if __name__ == "__main__":
    unittest.main()
