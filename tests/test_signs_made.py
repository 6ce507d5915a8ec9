"""signtown/signs.py: signs that are made, and what they tell of themselves and of towns."""

import itertools
import unittest

from signtown.errors import BadName, BadSigns, BadTown, NoSign, TooMany
from signtown.signs import Signs
from signtown.streets import Avenue, Lane, Road
from signtown.towns import Town
from some_towns import LETTERS, all_signs, mixed, some_towns, triangle
from values import Case, all_values, no_names, values_but

RING = {"r": ("a", "b"), "s": ("b", "c"), "t": ("c", "a")}


def many_parts(many):
    """Parts of so many signs."""
    return {LETTERS[at]: ("a", "b") for at in range(many)}


def wrong_pairs():
    """Values of all kinds that are no pairs of unlike names."""
    pairs = [
        ("a", "a"), ("z", "z"), ("a",), ("a", "b", "c"), ("a", "b", "b"), (), ["a", "b"], {"a": "b"}, "ab",
        (("a", "b"),), [("a", "b")], ("a", ("b",)),
    ]
    for value in no_names():
        pairs += [("a", value), (value, "b"), (value, value)]
    return pairs + [value for value in all_values() if value != ("a", "b")]


class MadeTest(Case):
    def test_parts(self):
        for row in itertools.permutations(RING):
            signs = Signs({name: RING[name] for name in row})
            self.assertEqual(RING, signs.parts)
            self.check_same(("r", "s", "t"), signs.names)
        self.assertEqual(RING, Signs(parts=RING).parts)

    def test_names_as_long_as_can_be_and_like_corners(self):
        parts = {"zzzzzzzz": ("abcdefgh", "zzzzzzzz"), "a": ("b", "a")}
        self.assertEqual(parts, Signs(parts).parts)
        self.check_same(("a", "zzzzzzzz"), Signs(parts).names)

    def test_up_to_fourteen(self):
        for many in range(15):
            self.check_same(many, len(Signs(many_parts(many))))
        for many in (15, 16, 26):
            self.check_raises(TooMany, {"what": "signs", "most": 14}, Signs, many_parts(many))

    def test_no_dict(self):
        for value in all_values():
            if not isinstance(value, dict):
                self.check_raises(BadSigns, {"part": "parts"}, Signs, value)
        for value in ([("r", ("a", "b"))], (("r", ("a", "b")),), ("r", ("a", "b")), Signs(RING), {"r"}):
            self.check_raises(BadSigns, {"part": "parts"}, Signs, value)

    def test_wrong_keys(self):
        keys = [
            "", "A", "a1", "abcdefghi", "a b", "r\n", " r", None, True, False, 0, 1, -1, 10 ** 60 - 1, (), ("r",),
            ("a", "b"), (("r",), 1),
        ]
        for key in keys:
            for parts in ({key: ("a", "b")}, {**RING, key: ("a", "b")}, {key: ("a", "b"), **RING}):
                self.check_raises(BadSigns, {"part": "parts"}, Signs, parts)

    def test_wrong_pairs(self):
        for pair in wrong_pairs():
            for parts in ({"q": pair}, {**RING, "q": pair}, {"q": pair, **RING}):
                self.check_raises(BadSigns, {"part": "parts"}, Signs, parts)

    def test_wrong_parts_ahead_of_too_many(self):
        for key, pair in (("z", ("a", "a")), ("Z", ("a", "b")), ("z", ["a", "b"])):
            for parts in ({**many_parts(15), key: pair}, {key: pair, **many_parts(15)}):
                self.check_raises(BadSigns, {"part": "parts"}, Signs, parts)

    def test_a_dict_that_is_changed_behind_the_making(self):
        parts = dict(RING)
        signs = Signs(parts)
        parts["r"] = ("b", "a")
        parts["x"] = None
        del parts["s"]
        self.assertEqual([RING, ("r", "s", "t"), "b"], [signs.parts, signs.names, signs["r"]])
        self.assertEqual({"r": ("b", "a"), "t": ("c", "a"), "x": None}, parts)

    def test_the_dict_stays(self):
        parts = {"t": ("c", "a"), "r": ("a", "b")}
        self.check_stays(parts, Signs, parts)

    def test_parts_is_a_new_dict_each_time(self):
        signs = Signs(RING)
        signs.parts.clear()
        signs.parts["r"] = ("b", "a")
        self.assertEqual(RING, signs.parts)
        self.assertIsNot(signs.parts, signs.parts)
        self.assertIs(dict, type(signs.parts))
        self.assertEqual([tuple] * 3, [type(pair) for pair in signs.parts.values()])


class ToldTest(Case):
    def test_properties_cannot_be_assigned(self):
        for name in ("names", "parts"):
            with self.assertRaises(AttributeError):
                setattr(Signs(RING), name, {})

    def test_goal_and_tail(self):
        signs = Signs(RING)
        self.assertEqual(["b", "c", "a"], [signs[name] for name in "rst"])
        self.assertEqual(["a", "b", "c"], [signs.tail(name) for name in "rst"])
        self.assertEqual("c", signs.tail(name="t"))

    def test_in(self):
        signs = Signs(RING)
        self.assertEqual([True, True, True], [name in signs for name in "rst"])
        self.assertIs(True, "r" in signs)

    def test_no_sign(self):
        for signs in (Signs({}), Signs(RING)):
            for value in [*all_values(), "rr", ("a", "b"), ("r",), RING]:
                self.assertIs(False, value in signs, value)
                self.check_refused(signs, NoSign, {"name": value}, signs.__getitem__, value)
                self.check_refused(signs, NoSign, {"name": value}, signs.tail, value)

    def test_iterated_over_again_and_again(self):
        signs = Signs({"t": ("c", "a"), "r": ("a", "b"), "rr": ("a", "b")})
        self.assertEqual(["r", "rr", "t"], list(signs))
        self.assertEqual(["r", "rr", "t"], [name for name in signs])
        self.assertEqual(9, len(list(itertools.product(signs, signs))))

    def test_truth(self):
        self.assertIs(False, bool(Signs({})))
        self.assertIs(True, bool(Signs({"r": ("a", "b")})))
        self.assertIs(True, bool(Signs(RING)))

    def test_equal(self):
        self.check_equal(Signs(RING), Signs({name: RING[name] for name in "tsr"}))
        self.check_equal(Signs({}), Signs.none())
        others = [
            {}, {"r": ("a", "b")}, {"r": ("b", "a")}, {"s": ("a", "b")}, {"r": ("a", "c")}, {**RING, "t": ("a", "c")},
            {**RING, "u": ("c", "a")}, {"r": ("a", "b"), "s": ("b", "c")},
        ]
        for parts in others:
            self.check_unlike(Signs(RING), Signs(parts))
        for one, other in itertools.combinations(others, 2):
            self.check_unlike(Signs(one), Signs(other))

    def test_equal_to_nothing_else(self):
        for signs in (Signs({}), Signs(RING)):
            for value in values_but(Signs) + [signs.parts, signs.names, list(signs)]:
                self.check_unlike(signs, value)

    def test_none(self):
        self.assertIs(Signs, type(Signs.none()))
        none = Signs.none()
        self.assertEqual([{}, (), 0, []], [none.parts, none.names, len(none), list(none)])
        self.assertIsInstance(vars(Signs)["none"], staticmethod)
        self.assertEqual(Signs.none(), Signs(RING).none())


class CountedTest(Case):
    def test_how_many_lead_to_a_corner(self):
        signs = Signs({"r": ("a", "b"), "s": ("c", "b"), "t": ("b", "a"), "u": ("d", "b")})
        self.assertEqual([1, 3, 0, 0, 0], [signs(corner) for corner in ("a", "b", "c", "d", "z")])
        self.check_same(0, signs("abcdefgh"))
        self.check_same(3, signs(corner="b"))
        self.check_same(0, Signs.none()("a"))

    def test_no_name(self):
        for signs in (Signs.none(), Signs(RING)):
            for value in no_names():
                self.check_refused(signs, BadName, {"value": value}, signs, value)


class OfTownsTest(Case):
    def test_fits(self):
        for town in some_towns():
            for signs in all_signs(town):
                self.assertIs(True, self.check_stays([town, signs], signs.fits, town))
                self.assertIs(True, signs.fits(town=town))

    def test_fits_all_roads_and_no_others(self):
        town, signs = triangle(), Signs(RING)
        self.assertIs(True, signs.fits(town | Lane("l", "a", "b") | Avenue("x", "a", "d")))
        for other in (town - "r", town | Road("u", "a", "b"), town.opened("r"), town.settled(Signs({"r": ("a", "b")})),
                      town - "r" | Road("u", "a", "b"), town - "r" | Road("r", "a", "c"), Town()):
            self.assertIs(False, self.check_stays([other, signs], signs.fits, other))
        for pair in (("a", "c"), ("c", "a"), ("b", "c"), ("c", "b"), ("x", "y"), ("a", "z"), ("z", "b")):
            self.assertIs(False, Signs({**RING, "r": pair}).fits(town))
        for parts in ({}, {"r": ("a", "b")}, {**RING, "l": ("a", "b")}):
            self.assertIs(False, Signs(parts).fits(town | Lane("l", "a", "b")))

    def test_no_signs_fit_a_town_without_roads(self):
        self.assertEqual([True, True, False], [
            Signs.none().fits(Town()), Signs.none().fits(Town(Lane("l", "a", "b"))), Signs.none().fits(triangle())])

    def test_fits_any_value(self):
        for value in all_values():
            self.assertIs(False, Signs(RING).fits(value), value)
            self.assertIs(isinstance(value, Town) and not value, Signs.none().fits(value), value)

    def test_price(self):
        for town in some_towns():
            for signs in all_signs(town):
                wanted = sum([town[name].there if start < goal else town[name].back
                              for name, (start, goal) in signs.parts.items()])
                self.check_same(wanted, self.check_stays([town, signs], signs.price, town))
                self.check_same(wanted, signs.price(town=town))
        self.check_same(0, Signs.none().price(Town()))

    def test_price_without_a_town(self):
        for value in values_but(Town):
            for signs in (Signs.none(), Signs(RING)):
                self.check_refused([signs, value], BadTown, {"part": "town"}, signs.price, value)

    def test_price_of_signs_that_do_not_fit(self):
        town = triangle()
        for parts in ({}, {"r": ("a", "b")}, {**RING, "u": ("a", "b")}, {**RING, "r": ("a", "c")}):
            signs = Signs(parts)
            self.check_refused([town, signs], BadSigns, {"part": "roads"}, signs.price, town)
        self.check_raises(BadSigns, {"part": "roads"}, Signs(RING).price, Town())

    def test_cheap(self):
        for town in some_towns():
            found = self.check_stays(town, Signs.cheap, town)
            wanted = {road.name: (road.other, road.one) if road.back < road.there else (road.one, road.other)
                      for road in town if isinstance(road, Road)}
            self.assertIs(Signs, type(found))
            self.assertEqual(wanted, found.parts)
            self.assertEqual(min([signs.price(town) for signs in all_signs(town)]), found.price(town))

    def test_cheap_with_equal_prices_leads_to_the_greater_end(self):
        for price in (0, 5, -5):
            town = Town(Road("r", "b", "a", price, price), Road("s", "c", "aa", price, price))
            self.assertEqual({"r": ("a", "b"), "s": ("aa", "c")}, Signs.cheap(town=town).parts)
        town = Town(Road("r", "a", "b", 1, 2), Road("s", "a", "b", 2, 1), Road("t", "a", "b", -1, -2))
        self.assertEqual({"r": ("a", "b"), "s": ("b", "a"), "t": ("b", "a")}, Signs.cheap(town).parts)
        self.assertEqual([Signs.none(), Signs.none()], [Signs.cheap(Town()), Signs.cheap(mixed() & Town())])

    def test_cheap_without_a_town(self):
        self.assertIsInstance(vars(Signs)["cheap"], classmethod)
        for value in values_but(Town):
            self.check_raises(BadTown, {"part": "town"}, Signs.cheap, value)


if __name__ == "__main__":
    unittest.main()
