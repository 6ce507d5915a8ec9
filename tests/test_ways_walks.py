"""signtown/ways.py: what a walk is."""

import itertools
import unittest

from signtown.signs import Signs
from signtown.streets import Avenue, Lane, Road
from signtown.towns import Town
from signtown.ways import is_walk
from by_definition import walks_along
from some_towns import all_signs, mixed, some_towns, triangle
from values import Case, all_values

RING = Signs({"r": ("a", "b"), "s": ("b", "c"), "t": ("c", "a")})
# Two rings that meet in b, with an avenue that leads on to e.
EIGHT = Town(Road("r", "a", "b"), Road("s", "b", "c"), Road("t", "c", "b"), Lane("l", "b", "d"), Lane("m", "d", "a"),
             Avenue("x", "a", "e"))
EIGHT_SIGNS = Signs({"r": ("a", "b"), "s": ("b", "c"), "t": ("c", "b")})


class IsWalkTest(Case):
    def check_walk(self, wanted, town, signs, start, goal, walk):
        values = [town, signs, start, goal, walk]
        self.assertIs(wanted, self.check_stays(values, is_walk, *values))

    def test_all_short_tuples(self):
        for town in some_towns():
            names = [*town.names, "zz"]
            rows = [row for many in range(4 if len(names) < 6 else 3) for row in itertools.product(names, repeat=many)]
            for signs in all_signs(town)[:3]:
                for start, goal in itertools.product([*town.corners, "z"], repeat=2):
                    wanted = [row for row in rows if walks_along(town, signs, start, goal, row)]
                    self.assertEqual(wanted, [row for row in rows if is_walk(town, signs, start, goal, row)])

    def test_walks_along_all_kinds_of_streets(self):
        for start, goal, walk in (
                ("a", "b", "r"), ("a", "c", "rs"), ("b", "d", "l"), ("b", "a", "lm"), ("a", "e", "x"), ("e", "a", "x"),
                ("e", "d", "xrl"), ("b", "e", "lmx"), ("a", "b", "rst"), ("a", "d", "rstl"), ("d", "e", "mx")):
            self.check_walk(True, EIGHT, EIGHT_SIGNS, start, goal, tuple(walk))

    def test_rings_and_walks_that_pass_a_corner_twice(self):
        for start, walk in (("a", "rlm"), ("a", "rstlm"), ("b", "st"), ("c", "ts"), ("b", "lmr"), ("c", "tlmrs")):
            self.check_walk(True, EIGHT, EIGHT_SIGNS, start, start, tuple(walk))
        self.check_walk(True, EIGHT, EIGHT_SIGNS, "e", "d", tuple("xrstl"))

    def test_spoilt_walks(self):
        for walk in ("stlmx", "rslmx", "rstmx", "rstlm", "rtslmx", "rsttlmx", "rstlmxx", "xmltsr", "rstlxm", "rlm"):
            self.check_walk(False, EIGHT, EIGHT_SIGNS, "a", "e", tuple(walk))
        for start, goal in (("b", "e"), ("a", "a"), ("a", "d"), ("e", "a"), ("e", "e")):
            self.check_walk(False, EIGHT, EIGHT_SIGNS, start, goal, tuple("rstlmx"))
        self.check_walk(True, EIGHT, EIGHT_SIGNS, "a", "e", tuple("rstlmx"))

    def test_no_street_twice(self):
        self.check_walk(False, triangle(), RING, "a", "b", tuple("rstr"))
        self.check_walk(False, EIGHT, EIGHT_SIGNS, "a", "a", ("x", "x"))
        self.check_walk(False, EIGHT, EIGHT_SIGNS, "a", "b", ("x", "x", "r"))

    def test_no_street_at_all(self):
        for start, goal in (("a", "a"), ("a", "b"), ("z", "z")):
            self.check_walk(False, triangle(), RING, start, goal, ())

    def test_against_a_direction(self):
        for start, goal, walk in (
                ("b", "a", "r"), ("c", "b", "s"), ("a", "c", "t"), ("a", "b", "ts"), ("a", "a", "tsr")):
            self.check_walk(False, triangle(), RING, start, goal, tuple(walk))
            self.check_walk(True, triangle(), ~RING, start, goal, tuple(walk))
        self.check_walk(False, EIGHT, EIGHT_SIGNS, "d", "b", ("l",))

    def test_other_kinds_of_values(self):
        for walk in (["r"], "r", {"r": 1}, (("r",),), (["r"],), ("r", None), (True,), (1,), ("R",), ("r", "r"),
                     (RING,)):
            self.check_walk(False, triangle(), RING, "a", "b", walk)
        self.check_walk(False, triangle(), RING, "a", "c", ["r", "s"])
        self.check_walk(False, triangle(), RING, "a", "c", "rs")

    def test_any_value_as_the_walk(self):
        for value in all_values():
            for start, goal in (("a", "b"), ("c", "a"), ("b", "b"), (None, None)):
                self.check_walk(False, triangle(), RING, start, goal, value)
        found = [value for value in all_values() if is_walk(mixed(), Signs.cheap(mixed()), "a", "a", value)]
        self.assertEqual([], found)

    def test_any_value_as_the_ends(self):
        for value in all_values():
            self.check_walk(value == "a", triangle(), RING, value, "b", ("r",))
            self.check_walk(value == "b", triangle(), RING, "a", value, ("r",))
            self.check_walk(False, triangle(), RING, value, value, ("r",))
            self.check_walk(isinstance(value, str) and value == "a", triangle(), RING, value, value, ("r", "s", "t"))
            self.check_walk(False, triangle(), RING, value, value, ())
            self.check_walk(False, triangle(), RING, "a", value, ("s",))
            self.check_walk(False, Town(), Signs.none(), value, value, ("r",))

    def test_by_name(self):
        self.assertIs(True, is_walk(walk=("r",), goal="b", start="a", signs=RING, town=triangle()))


if __name__ == "__main__":
    unittest.main()
