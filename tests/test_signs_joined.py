"""signtown/signs.py: signs that are put together, compared and turned."""

import itertools
import operator
import unittest

from signtown.errors import BadSigns, NoSign, TooMany, Unlike
from signtown.signs import Signs
from values import Case, all_values, values_but

RING = {"r": ("a", "b"), "s": ("b", "c"), "t": ("c", "a")}
JOINS = (operator.or_, operator.ior)
MEETS = (operator.and_, operator.iand)
TAKES = (operator.sub, operator.isub)


def turned(pair):
    return pair[1], pair[0]


def many_signs():
    """All signs for some of three names, each in either direction, or with another end."""
    choices = [[None, pair, turned(pair)] for pair in RING.values()] + [[None, ("a", "z")]]
    rows = itertools.product(*choices)
    return [Signs({name: pair for name, pair in zip("rstz", row) if pair}) for row in rows]


class JoinedTest(Case):
    def check_parts(self, wanted, found):
        self.assertIs(Signs, type(found))
        self.assertEqual(wanted, found.parts)

    def test_signs_of_both(self):
        for one, other in itertools.product(many_signs(), repeat=2):
            unlike = [name for name in one.names if name in other.parts and one.parts[name] != other.parts[name]]
            for call in JOINS:
                if unlike:
                    self.check_refused([one, other], Unlike, {"part": unlike[0]}, call, one, other)
                else:
                    self.check_parts({**one.parts, **other.parts}, self.check_stays([one, other], call, one, other))

    def test_least_unlike_name(self):
        names = ("c", "ab", "b", "a")
        one = Signs({"a": ("x", "y"), **{name: ("a", "b") for name in ("c", "ab", "b")}})
        other = Signs({name: ("b", "a") if name != "a" else ("x", "y") for name in names})
        self.check_refused([one, other], Unlike, {"part": "ab"}, operator.or_, one, other)
        self.check_refused([one, other], Unlike, {"part": "ab"}, operator.or_, other, one)

    def test_too_many(self):
        half = Signs({letter: ("a", "b") for letter in "abcdefg"})
        other = Signs({letter: ("a", "b") for letter in "hijklmn"})
        more = Signs({letter: ("a", "b") for letter in "hijklmno"})
        for call in JOINS:
            self.assertEqual(14, len(call(half, other)))
            self.assertEqual(14, len(call(call(half, other), half)))
            self.check_refused([half, more], TooMany, {"what": "signs", "most": 14}, call, half, more)
            self.check_refused(half, Unlike, {"part": "a"}, call, half, more | Signs({"a": ("b", "a")}))

    def test_common_signs(self):
        for one, other in itertools.product(many_signs(), repeat=2):
            wanted = {name: one.parts[name] for name in one.names if one.parts[name] == other.parts.get(name)}
            for call in MEETS:
                self.check_parts(wanted, self.check_stays([one, other], call, one, other))

    def test_has_all_signs(self):
        for one, other in itertools.product(many_signs(), repeat=2):
            wanted = set(one.parts.items()) <= set(other.parts.items())
            self.assertIs(wanted, self.check_stays([one, other], operator.le, one, other))

    def test_no_signs_on_the_right(self):
        for signs in (Signs.none(), Signs(RING)):
            for value in values_but(Signs) + [signs.parts, RING, signs.names]:
                for call in (*JOINS, *MEETS, operator.le):
                    self.check_refused([signs, value], BadSigns, {"part": "signs"}, call, signs, value)

    def test_without_a_sign(self):
        for signs in many_signs():
            for name in signs.names:
                wanted = {other: pair for other, pair in signs.parts.items() if other != name}
                for call in TAKES:
                    self.check_parts(wanted, self.check_stays(signs, call, signs, name))

    def test_without_what_has_no_sign(self):
        for signs in (Signs.none(), Signs(RING)):
            for value in [*all_values(), "rr", ("a", "b"), ("r",), ["r"], RING, Signs(RING)]:
                for call in TAKES:
                    self.check_refused([signs, value], NoSign, {"name": value}, call, signs, value)

    def test_in_place_binds_the_name(self):
        signs = first = Signs(RING)
        signs |= Signs({"u": ("x", "y")})
        self.assertEqual([("r", "s", "t", "u"), RING], [signs.names, first.parts])
        signs -= "s"
        self.assertEqual([("r", "t", "u"), RING], [signs.names, first.parts])
        signs &= first
        self.assertEqual([("r", "t"), RING], [signs.names, first.parts])


class TurnedTest(Case):
    def test_all_turned(self):
        for signs in many_signs():
            found = self.check_stays(signs, operator.invert, signs)
            self.assertIs(Signs, type(found))
            self.assertEqual({name: turned(pair) for name, pair in signs.parts.items()}, found.parts)
            self.assertEqual(signs, ~found)

    def test_some_turned(self):
        signs = Signs(RING)
        for many in range(5):
            for names in itertools.product("rst", repeat=many):
                found = self.check_stays(signs, signs.turned, *names)
                wanted = {
                    name: turned(pair) if names.count(name) in (1, 3) else pair for name, pair in RING.items()}
                self.assertIs(Signs, type(found))
                self.assertEqual(wanted, found.parts)
        self.assertEqual(Signs.none(), Signs.none().turned())

    def test_first_value_without_a_sign(self):
        for signs in (Signs.none(), Signs(RING)):
            for value in all_values():
                self.check_refused([signs, value], NoSign, {"name": value}, signs.turned, value)
                self.check_refused(signs, NoSign, {"name": value}, signs.turned, value, None, "x")
        signs = Signs(RING)
        for value in all_values():
            self.check_refused(signs, NoSign, {"name": value}, signs.turned, "r", "r", value, None, "s", "x")
            self.check_refused(signs, NoSign, {"name": None}, signs.turned, "t", None, value)
        self.check_refused(signs, NoSign, {"name": ("r", "s")}, signs.turned, ("r", "s"))


if __name__ == "__main__":
    unittest.main()
