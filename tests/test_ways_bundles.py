"""signtown/ways.py: bundles, with as many walks as can be."""

import itertools
import random
import unittest

from signtown.errors import Level, NoCorner
from signtown.signs import Signs
from signtown.streets import Avenue, Lane, Road
from signtown.towns import Town
from signtown.wards import Ward
from signtown.ways import Bundle, bundle, shows_bundle
from by_definition import counts_into, is_bundle
from some_towns import (
    all_signs, drawn_rounds, drawn_town, many_streets, mixed, ring_of, signs_again, some_towns, town_again, triangle)
from values import Case, all_values

RING = Signs({"r": ("a", "b"), "s": ("b", "c"), "t": ("c", "a")})
KINDS = (Road, Road, Lane, Avenue)


def drawn_signs(draw, town):
    """Some signs that fit the town."""
    return Signs.cheap(town).turned(*[name for name in town.roads if draw.random() < 0.5])


def towns_with_signs():
    """Towns of two to seven corners with some signs that fit them."""
    draw = random.Random(3)
    towns = some_towns() + [ring_of(7), ring_of(5, Avenue), ring_of(6, Lane), Town(*many_streets(14))]
    towns += [drawn_town(draw, corners, 14, KINDS) for corners in range(2, 8) for _ in range(4)]
    towns += [drawn_rounds(draw, corners, 2, KINDS) for corners in range(2, 8) for _ in range(4)]
    return [(town, drawn_signs(draw, town)) for town in towns for _ in range(2)]


class BundleTest(Case):
    def check_bundle(self, town, signs, start, goal, many):
        """The bundle has so many walks, and a ward that shows that there are no more."""
        found = self.check_stays([town, signs], bundle, town, signs, start, goal)
        self.assertIs(Bundle, type(found))
        self.assertTrue(is_bundle(town, signs, start, goal, found.walks))
        self.assertEqual([many, many], [len(found), len(found.walks)])
        self.assertIs(Ward, type(found.ward))
        self.assertEqual([True, False], [goal in found.ward.corners, start in found.ward.corners])
        self.assertEqual(many, counts_into(town, signs)[found.ward.corners])
        self.check_equal(found, bundle(town_again(town), signs_again(signs), start, goal))
        self.assertIs(True, shows_bundle(town, signs, start, goal, found))

    def test_all_pairs_of_corners(self):
        for town, signs in towns_with_signs():
            counts = counts_into(town, signs)
            for start, goal in itertools.permutations(town.corners, 2):
                least = min(number for ward, number in counts.items() if goal in ward and start not in ward)
                self.check_bundle(town, signs, start, goal, least)

    def test_all_signs_of_small_towns(self):
        for town in some_towns():
            for signs in all_signs(town):
                counts = counts_into(town, signs)
                least = min(number for ward, number in counts.items() if "b" in ward and "a" not in ward)
                self.check_bundle(town, signs, "a", "b", least)

    def test_an_avenue_is_one_street(self):
        across = Town(Lane("e", "a", "b"), Lane("f", "a", "c"), Avenue("x", "b", "c"), Lane("g", "b", "d"),
                      Lane("h", "c", "d"), Lane("i", "b", "d"), Lane("k", "a", "c"), Avenue("y", "b", "c"))
        self.check_bundle(across, Signs.none(), "a", "d", 3)
        one_way = Town(Avenue("x", "a", "b"), Avenue("y", "b", "c"), Avenue("z", "a", "c"))
        for start, goal in itertools.permutations("abc", 2):
            self.check_bundle(one_way, Signs.none(), start, goal, 2)
        self.check_bundle(Town(Avenue("x", "a", "b")), Signs.none(), "b", "a", 1)

    def test_walks_that_take_back_what_led_the_other_way(self):
        # The shortest walk goes a b c f; both walks go without the avenue, or share its two corners alone.
        for middle in (Avenue("m", "b", "c"), Lane("m", "b", "c"), Road("m", "b", "c")):
            town = Town(Lane("e", "a", "b"), middle, Lane("g", "c", "f"), Lane("h", "a", "d"), Lane("i", "d", "c"),
                        Lane("j", "b", "e"), Lane("k", "e", "f"))
            self.check_bundle(town, Signs.cheap(town), "a", "f", 2)

    def test_fourteen_streets_between_two_corners(self):
        avenues = Town(*[Avenue(letter, "b", "a") for letter in "abcdefghijklmn"])
        self.check_bundle(avenues, Signs.none(), "a", "b", 14)
        self.check_bundle(avenues, Signs.none(), "b", "a", 14)
        lanes = Town(*[Lane(letter, "b", "a") for letter in "abcdefghijklmn"])
        self.check_bundle(lanes, Signs.none(), "b", "a", 14)
        self.check_bundle(lanes, Signs.none(), "a", "b", 0)
        self.assertEqual((), bundle(lanes, Signs.none(), "a", "b").walks)

    def test_by_name(self):
        self.assertEqual((("r", "s"),), bundle(goal="c", start="a", signs=RING, town=triangle()).walks)


class RefusedTest(Case):
    def test_no_corner(self):
        for value in all_values():
            if not isinstance(value, str) or value not in ("a", "b", "c"):
                for other in ("a", "z", None, value):
                    for call, more in ((bundle, []), (shows_bundle, [None])):
                        self.check_raises(NoCorner, {"name": value}, call, triangle(), RING, value, other, *more)
                self.check_raises(NoCorner, {"name": value}, bundle, triangle(), RING, "a", value)
                self.check_raises(NoCorner, {"name": value}, shows_bundle, triangle(), RING, "b", value, None)
        self.check_raises(NoCorner, {"name": "r"}, bundle, triangle(), RING, "r", "s")
        self.check_raises(NoCorner, {"name": "a"}, bundle, Town(), Signs.none(), "a", "a")

    def test_level(self):
        for town, signs in ((triangle(), RING), (mixed(), Signs.cheap(mixed()))):
            for corner in town.corners:
                self.check_raises(Level, {"corner": corner}, bundle, town, signs, corner, corner)
                self.check_raises(Level, {"corner": corner}, shows_bundle, town, signs, corner, corner, None)


class ShowsTest(Case):
    TOWN = triangle() | Avenue("p", "a", "b") | Lane("l", "c", "b") | Avenue("q", "a", "c")

    def check_shows(self, wanted, walks, ward, start="a", goal="b"):
        value = Bundle(walks, ward)
        self.assertIs(wanted, self.check_stays(value, shows_bundle, self.TOWN, RING, start, goal, value))

    def test_right_ones(self):
        for walks in itertools.permutations([("p",), ("r",), ("q", "l")]):
            self.check_shows(True, walks, Ward("b"))
        self.check_shows(True, (("r", "s"), ("q",)), Ward("c"), "a", "c")
        self.check_shows(True, (("p",), ("r",), ("q", "l")), Ward("b", "c"))

    def test_walks_otherwise(self):
        right = [("p",), ("r",), ("q", "l")]
        for walks in (
                right[:2], right[1:], [], right + [("p",)], right[:2] + [("r",)], right[:2] + [("q",)],
                right[:2] + [("l", "q")], right[:2] + [()], right[:2] + [("q", "l", "q")], right[:2] + [["q", "l"]],
                right[:2] + ["ql"], right[:2] + [None], right[:2] + [("q", "l", "s", "l")], right + [("q", "l")],
                [("p",), ("r",), ("t", "l")], [("p",), ("r",), ("q", "t", "p")]):
            self.check_shows(False, tuple(walks), Ward("b"))
        for walks in (list(right), {"a": 1}, None, "", 3, Ward("b"), dict.fromkeys(right)):
            self.check_shows(False, walks, Ward("b"))

    def test_two_walks_that_meet_in_an_avenue(self):
        town = Town(Lane("e", "a", "b"), Avenue("x", "b", "c"), Lane("g", "c", "d"), Lane("h", "a", "c"),
                    Lane("i", "b", "d"))
        walks, straight = (("e", "x", "g"), ("h", "x", "i")), (("e", "i"), ("h", "g"))
        self.assertIs(False, shows_bundle(town, Signs.none(), "a", "d", Bundle(walks, Ward("d"))))
        self.assertIs(True, shows_bundle(town, Signs.none(), "a", "d", Bundle(straight, Ward("d"))))
        self.assertIs(True, shows_bundle(town, Signs.none(), "a", "d", Bundle(straight, Ward("b", "c", "d"))))

    def test_another_ward(self):
        walks = (("p",), ("r",), ("q", "l"))
        for ward in (Ward("a"), Ward("c"), Ward("b", "c"), Ward("a", "b"), Ward("a", "c"), Ward("b", "z"), Ward("z"),
                     Ward("a", "b", "c"), ("b",), "b", None, ["b"]):
            self.check_shows(ward == Ward("b", "c"), walks, ward)

    def test_a_ward_without_the_goal_shows_nothing(self):
        self.assertEqual(2, counts_into(self.TOWN, RING)[("c",)])
        self.check_shows(False, (("p",), ("r",)), Ward("c"))
        self.check_shows(False, (("p",), ("r",)), Ward("a"))

    def test_walks_for_other_ends(self):
        value = Bundle((("p",), ("r",), ("q", "l")), Ward("b"))
        for start, goal in itertools.permutations("abc", 2):
            self.assertIs((start, goal) == ("a", "b"), shows_bundle(self.TOWN, RING, start, goal, value))

    def test_any_value(self):
        for value in all_values() + [(("r",),), {"walks": (("r",),), "ward": Ward("b")}]:
            self.assertIs(False, self.check_stays(value, shows_bundle, self.TOWN, RING, "a", "b", value))
            self.check_shows(False, value, Ward("b"))
            self.check_shows(False, (value,), Ward("b"))
            self.check_shows(False, ((value,),), Ward("b"))
            self.check_shows(value in (Ward("b"), Ward("b", "c")), (("p",), ("r",), ("q", "l")), value)

    def test_no_walks(self):
        town = Town(Lane("l", "a", "b"))
        for value, wanted in ((Bundle((), Ward("a")), True), (Bundle([], Ward("a")), False),
                              (Bundle((), Ward("b")), False), (Bundle(None, Ward("a")), False)):
            self.assertIs(wanted, shows_bundle(town, Signs.none(), "b", "a", value))


if __name__ == "__main__":
    unittest.main()
