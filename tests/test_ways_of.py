"""signtown/ways.py: the ways that show signs to be good."""

import itertools
import random
import unittest

from signtown.errors import BadNeed, BadSigns, BadTown, Empty, NotGood
from signtown.signs import Signs
from signtown.streets import Avenue, Lane, Road
from signtown.towns import Town
from signtown.ways import Bundle, Ways, shows_ways, ways_of
from by_definition import are_ways, counts_into, good_by_counts, good_by_shutting
from some_towns import (
    all_signs, complete, drawn_rounds, many_streets, mixed, ring_of, signs_again, some_towns, town_again, triangle)
from values import Case, all_values

RING = Signs({"r": ("a", "b"), "s": ("b", "c"), "t": ("c", "a")})
RIGHT = Ways("a", {"b": (("r",),), "c": (("r", "s"),)}, {"b": (("s", "t"),), "c": (("t",),)})


class WaysOfTest(Case):
    def check_needs(self, town, signs):
        """There are ways for just the needs that all wards have streets for."""
        least = min(counts_into(town, signs).values())
        for need in range(1, least + 1):
            found = self.check_stays([town, signs], ways_of, town, signs, need)
            self.assertIs(Ways, type(found))
            self.assertTrue(are_ways(town, signs, need, found))
            self.check_equal(found, ways_of(town_again(town), signs_again(signs), need))
            self.assertIs(True, shows_ways(town, signs, need, found))
            self.assertIs(False, shows_ways(town, signs, need + 1, found))
        for need in range(least + 1, 21):
            self.check_refused([town, signs], NotGood, {"need": need}, ways_of, town, signs, need)

    def test_all_needs_of_all_signs(self):
        for town in some_towns() + [complete(4)]:
            for signs in all_signs(town):
                self.check_needs(town, signs)

    def test_needs_of_two_to_seven_corners(self):
        draw = random.Random(8)
        for corners in range(2, 8):
            for kinds in ((Road,), (Avenue,), (Lane, Avenue, Road), (Road, Avenue, Avenue)):
                town = drawn_rounds(draw, corners, 2, kinds)
                self.check_needs(town, Signs.cheap(town))
                self.check_needs(town, Signs.cheap(town).turned(*town.roads[:1]))
        for corners in range(2, 8):
            self.check_needs(ring_of(corners, Avenue), Signs.none())
            self.check_needs(ring_of(corners, Lane) | Avenue("x", "b", "a"), Signs.none())

    def test_fourteen_streets(self):
        town = Town(*[Avenue(letter, "a", "b") for letter in "abcdefghijklmn"])
        self.check_needs(town, Signs.none())
        self.assertEqual(14, len(ways_of(town, Signs.none(), 14).out["b"]))
        self.check_needs(Town(*many_streets(14)), Signs.cheap(Town(*many_streets(14))))

    def test_ways_are_there_just_for_what_stays_open(self):
        for town in (triangle(), complete(4), mixed() - "w" - "s", triangle() | Avenue("x", "a", "b")):
            for signs in all_signs(town):
                for need in (1, 2):
                    wanted = good_by_shutting(town, signs, need)
                    self.assertEqual(wanted, good_by_counts(town, signs, need))
                    if wanted:
                        self.assertTrue(are_ways(town, signs, need, ways_of(town, signs, need)))
                    else:
                        self.check_raises(NotGood, {"need": need}, ways_of, town, signs, need)

    def test_by_name(self):
        self.assertEqual(RIGHT, ways_of(need=1, signs=RING, town=triangle()))
        self.assertIs(True, shows_ways(value=RIGHT, need=1, signs=RING, town=triangle()))

    def test_the_dicts_belong_to_the_caller(self):
        found = ways_of(triangle(), RING, 1)
        found.out.clear()
        found.back["b"] = None
        self.assertEqual(RIGHT, ways_of(triangle(), RING, 1))


class RefusedTest(Case):
    def test_empty(self):
        for need in (1, 20):
            self.check_raises(Empty, {}, ways_of, Town(), Signs.none(), need)
            self.check_raises(Empty, {}, shows_ways, Town(), Signs.none(), need, None)

    def test_shows_ways_raises_nothing_else(self):
        for signs in all_signs(triangle()):
            for need in (1, 2, 20):
                self.assertIs(signs == RING and need == 1, shows_ways(triangle(), signs, need, RIGHT))

    def test_orders(self):
        self.check_raises(BadTown, {"part": "town"}, ways_of, None, None, 0)
        self.check_raises(BadSigns, {"part": "signs"}, ways_of, Town(), None, 0)
        self.check_raises(BadSigns, {"part": "roads"}, ways_of, Town(), RING, 0)
        self.check_raises(BadNeed, {"value": 0}, ways_of, Town(), Signs.none(), 0)


class ShowsTest(Case):
    def check_shows(self, wanted, *parts):
        value = Ways(*parts)
        self.assertIs(wanted, self.check_stays(value, shows_ways, triangle(), RING, 1, value))

    def test_right_ones(self):
        self.check_shows(True, RIGHT.root, RIGHT.out, RIGHT.back)
        self.check_shows(True, "a", {"c": (("r", "s"),), "b": (("r",),)}, {"c": (("t",),), "b": (("s", "t"),)})

    def test_another_root(self):
        self.check_shows(False, "b", {"a": (("s", "t"),), "c": (("s",),)}, {"a": (("r",),), "c": (("t", "r"),)})
        for root in ("b", "c", "z", "", None, ["a"], ("a",), {"a": 1}, 0):
            self.check_shows(False, root, RIGHT.out, RIGHT.back)

    def test_keys_more_and_less(self):
        for out in ({}, {"b": (("r",),)}, {"c": (("r", "s"),)}, {**RIGHT.out, "a": (("r", "s", "t"),)},
                    {**RIGHT.out, "z": (("r",),)}, {**RIGHT.out, "a": ()}, {"b": (("r",),), "z": (("r", "s"),)},
                    {**RIGHT.out, None: (("r",),)}, {**RIGHT.out, 1: ()}):
            self.check_shows(False, "a", out, RIGHT.back)
        for back in ({}, {"b": (("s", "t"),)}, {**RIGHT.back, "a": (("r", "s", "t"),)}, {**RIGHT.back, "z": ()}):
            self.check_shows(False, "a", RIGHT.out, back)
        self.check_shows(False, "a", RIGHT.back, RIGHT.out)

    def test_bundles_otherwise(self):
        for bundle in ((), (("r",), ("r",)), (("r", "s"),), (("r", "s", "t"),), (("s",),), (("t",),), (("r", "r"),),
                       (("r",), ()), ((),), (["r"],), [("r",)], ("r",), "r", ("r", "s"), None, {("r",): 1},
                       Bundle((("r",),), None), (("z",),), ((None,),), (("r", None),), 1, True, (1,), ((1,),)):
            self.check_shows(False, "a", {**RIGHT.out, "b": bundle}, RIGHT.back)
        for bundle in ((), (("t",), ("t",)), (("s",),), [("t",)], (["t"],), (("t", "r"),), None, "t"):
            self.check_shows(False, "a", RIGHT.out, {**RIGHT.back, "c": bundle})

    def test_lists_for_dicts(self):
        for out in (list(RIGHT.out.items()), tuple(RIGHT.out.items()), list(RIGHT.out), None, 3, "bc", RIGHT):
            self.check_shows(False, "a", out, RIGHT.back)
            self.check_shows(False, "a", RIGHT.out, out)

    def test_any_value(self):
        for value in all_values() + [("a", RIGHT.out, RIGHT.back), vars(RIGHT)]:
            self.assertIs(False, self.check_stays(value, shows_ways, triangle(), RING, 1, value))
            self.check_shows(value == "a", value, RIGHT.out, RIGHT.back)
            self.check_shows(False, "a", value, RIGHT.back)
            self.check_shows(False, "a", RIGHT.out, value)
            self.check_shows(False, "a", {**RIGHT.out, "b": value}, RIGHT.back)
            self.check_shows(False, "a", {**RIGHT.out, "b": (value,)}, RIGHT.back)
            self.check_shows(False, "a", {**RIGHT.out, "b": ((value,),)}, RIGHT.back)

    def test_two_walks_in_each_bundle(self):
        town = Town(*[Avenue(name, *pair) for name, pair in zip("rstuvwx", itertools.combinations("abcd", 2))])
        right = ways_of(town, Signs.none(), 3)
        for table in ("out", "back"):
            for corner in "bcd":
                walks = getattr(right, table)[corner]
                for row in itertools.permutations(walks):
                    self.assertIs(True, self.spoilt(town, right, table, corner, row))
                others = [walks[:2], walks + walks[:1], walks[:2] + walks[:1], walks[:2] + (walks[2][::-1] + ("r",),),
                          walks[:2] + (walks[2] + walks[1],), list(walks), walks[:2] + (list(walks[2]),)]
                for row in others:
                    self.assertIs(False, self.spoilt(town, right, table, corner, row))
        self.assertEqual([False, False, False], [shows_ways(town, Signs.none(), need, right) for need in (1, 2, 4)])

    def spoilt(self, town, right, table, corner, walks):
        """What shows_ways tells of ways with another bundle."""
        tables = {"out": dict(right.out), "back": dict(right.back)}
        tables[table][corner] = walks
        return shows_ways(town, Signs.none(), 3, Ways("a", tables["out"], tables["back"]))

    def test_two_walks_that_meet_in_an_avenue(self):
        town = Town(Avenue("e", "a", "b"), Avenue("f", "a", "c"), Avenue("x", "b", "c"), Avenue("g", "b", "d"),
                    Avenue("h", "c", "d"))
        right = ways_of(town, Signs.none(), 2)
        meeting = (("e", "x", "h"), ("f", "x", "g"))
        self.assertIs(True, shows_ways(town, Signs.none(), 2, right))
        self.assertIs(False, shows_ways(town, Signs.none(), 2, Ways("a", {**right.out, "d": meeting}, right.back)))


if __name__ == "__main__":
    unittest.main()
