"""signtown/judge.py: whether signs are good, and how strong they are."""

import random
import unittest

from signtown.errors import BadNeed, Empty
from signtown.judge import Short, Sound, Strength, Verdict, judge, shows_strength, shows_verdict, strength
from signtown.signs import Signs
from signtown.streets import Avenue, Lane, Road
from signtown.towns import Town
from signtown.wards import Ward
from signtown.ways import Ways, ways_of
from by_definition import are_ways, counts_into, good_by_shutting
from some_towns import (
    all_signs, complete, drawn_rounds, drawn_town, mixed, ring_of, signs_again, some_towns, town_again, triangle)
from values import Case, all_values, no_strings

RING = Signs({"r": ("a", "b"), "s": ("b", "c"), "t": ("c", "a")})
WAYS = ways_of(triangle(), RING, 1)


def towns_with_signs():
    """Small towns with all their signs, and larger ones with some."""
    draw = random.Random(4)
    found = [(town, signs) for town in some_towns() + [complete(4)] for signs in all_signs(town)]
    for corners in range(2, 8):
        drawn = [drawn_town(draw, corners, 12, (Road, Lane, Avenue)), drawn_rounds(draw, corners, 2, (Road, Avenue))]
        for town in drawn:
            found += [(town, Signs.cheap(town)), (town, ~Signs.cheap(town))]
    return found


class JudgeTest(Case):
    def check_judged(self, town, signs, need):
        """The verdict is as the counts of the streets into all wards."""
        counts = counts_into(town, signs)
        found = self.check_stays([town, signs], judge, town, signs, need)
        self.assertIsInstance(found, Verdict)
        if min(counts.values()) >= need:
            self.assertIs(Sound, type(found))
            self.assertTrue(are_ways(town, signs, need, found.ways))
            self.assertIs(True, bool(found))
        else:
            self.assertIs(Short, type(found))
            self.assertLess(counts[found.ward.corners], need)
            self.assertIs(False, bool(found))
        self.check_equal(found, judge(town_again(town), signs_again(signs), need))
        self.assertIs(True, shows_verdict(town, signs, need, found))

    def test_against_the_counts_of_all_wards(self):
        for town, signs in towns_with_signs():
            for need in (1, 2, 3, 5, 20):
                self.check_judged(town, signs, need)

    def test_against_shutting_streets(self):
        for town in (triangle(), complete(4), mixed() - "w" - "s", triangle() | Avenue("x", "a", "b"),
                     ring_of(3, Avenue) | Lane("x", "a", "b") | Road("y", "a", "b"), Town(Lane("l", "a", "b"))):
            for signs in all_signs(town):
                for need in (1, 2, 3):
                    self.assertIs(good_by_shutting(town, signs, need), bool(judge(town, signs, need)))

    def test_a_corner_with_no_street_in(self):
        town = triangle() | Lane("x", "d", "a")
        for need in (1, 20):
            found = judge(town, RING, need)
            self.assertEqual([Short, False], [type(found), bool(found)])
        self.assertEqual(Short(Ward("d")), judge(town, RING, 1))

    def test_plain_cases(self):
        self.assertEqual(Sound(WAYS), judge(need=1, signs=RING, town=triangle()))
        self.assertIs(False, bool(judge(triangle(), RING, 2)))
        self.assertIs(False, bool(judge(triangle(), RING.turned("r"), 1)))
        self.assertEqual(3, len(judge(ring_of(2, Avenue) | Avenue("x", "a", "b"), Signs.none(), 3).ways.out["b"]))

    def test_empty(self):
        for call, more in ((judge, []), (shows_verdict, [None])):
            self.check_raises(Empty, {}, call, Town(), Signs.none(), 1, *more)
            self.check_raises(BadNeed, {"value": 0}, call, Town(), Signs.none(), 0, *more)


class StrengthTest(Case):
    def test_against_the_counts_of_all_wards(self):
        for town, signs in towns_with_signs():
            counts = counts_into(town, signs)
            found = self.check_stays([town, signs], strength, town, signs)
            self.assertIs(Strength, type(found))
            self.check_same(min(counts.values()), found.number)
            self.assertEqual(found.number, counts[found.ward.corners])
            if found.number == 0:
                self.assertIsNone(found.ways)
            else:
                self.assertTrue(are_ways(town, signs, found.number, found.ways))
            self.check_equal(found, strength(town_again(town), signs_again(signs)))
            self.assertIs(True, shows_strength(town, signs, found))

    def test_plain_cases(self):
        self.assertEqual(Strength(0, Ward("a"), None), strength(Town(Lane("l", "a", "b")), Signs.none()))
        self.assertEqual(Strength(1, Ward("a"), WAYS), strength(signs=RING, town=triangle()))
        fourteen = Town(*[Avenue(letter, "a", "b") for letter in "abcdefghijklmn"])
        self.assertEqual([14, 14], [strength(fourteen, Signs.none()).number,
                                    len(strength(fourteen, Signs.none()).ways.back["b"])])

    def test_empty(self):
        self.check_raises(Empty, {}, strength, Town(), Signs.none())
        self.check_raises(Empty, {}, shows_strength, Town(), Signs.none(), None)


class ShowsVerdictTest(Case):
    def check_shows(self, wanted, signs, need, value):
        self.assertIs(wanted, self.check_stays(value, shows_verdict, triangle(), signs, need, value))

    def test_right_ones(self):
        self.check_shows(True, RING, 1, Sound(WAYS))
        for ward in triangle().wards():
            self.check_shows(True, RING, 2, Short(ward))
            self.check_shows(False, RING, 1, Short(ward))
            counts = counts_into(triangle(), RING.turned("r"))
            self.check_shows(counts[ward.corners] == 0, RING.turned("r"), 1, Short(ward))
        self.assertIs(True, shows_verdict(value=Sound(WAYS), need=1, signs=RING, town=triangle()))

    def test_other_parts(self):
        spoilt = [Ways("b", WAYS.out, WAYS.back), Ways("a", {}, WAYS.back), Ways("a", WAYS.out, {**WAYS.back, "c": ()})]
        for value in spoilt + [None, Sound(WAYS), vars(WAYS)]:
            self.check_shows(False, RING, 1, Sound(value))
        self.check_shows(False, RING, 2, Sound(WAYS))
        self.check_shows(False, RING.turned("r"), 1, Sound(WAYS))
        for ward in (Ward("z"), Ward("a", "b", "c"), Ward("a", "z"), ("a",), "a", ["a"], None, Short(Ward("a"))):
            self.check_shows(False, RING, 2, Short(ward))
            self.check_shows(False, RING, 20, Short(ward))

    def test_papers_of_other_classes(self):
        self.check_shows(False, RING, 1, WAYS)
        self.check_shows(False, RING, 2, Ward("a"))
        self.check_shows(False, RING, 1, Short(WAYS))
        self.check_shows(False, RING, 2, Sound(Ward("a")))
        self.check_shows(False, RING, 1, strength(triangle(), RING))

    def test_any_value(self):
        for value in all_values():
            for need in (1, 2):
                self.check_shows(need == 2 and value == Short(Ward("a")), RING, need, value)
                self.check_shows(False, RING, need, Sound(value))
                self.check_shows(need == 2 and value in (Ward("a"), Ward("b", "c")), RING, need, Short(value))


class ShowsStrengthTest(Case):
    def check_shows(self, wanted, *parts):
        value = Strength(*parts)
        self.assertIs(wanted, self.check_stays(value, shows_strength, triangle(), RING, value))

    def test_right_ones(self):
        for ward in triangle().wards():
            self.check_shows(True, 1, ward, WAYS)
        town = Town(Lane("l", "a", "b"), Lane("m", "a", "c"))
        for ward in town.wards():
            wanted = "a" in ward
            self.assertIs(wanted, shows_strength(town, Signs.none(), Strength(0, ward, None)))
        self.assertIs(True, shows_strength(value=strength(triangle(), RING), signs=RING, town=triangle()))

    def test_another_number(self):
        for number in (0, 2, -1, 21, 10 ** 59, True, False, None, "1", (1,), [1]):
            self.check_shows(False, number, Ward("a"), WAYS)
            self.check_shows(False, number, Ward("a"), None)

    def test_another_ward(self):
        town = triangle() | Avenue("x", "a", "b")
        for ward in town.wards():
            self.assertIs(ward == Ward("a", "b") or ward == Ward("c"),
                          shows_strength(town, RING, Strength(1, ward, ways_of(town, RING, 1))))
        for ward in (Ward("z"), Ward("a", "z"), Ward("a", "b", "c"), ("a",), "a", None):
            self.check_shows(False, 1, ward, WAYS)

    def test_other_ways(self):
        for ways in (None, (), {}, Ways("a", WAYS.back, WAYS.out), Ways("b", WAYS.out, WAYS.back), vars(WAYS),
                     Sound(WAYS)):
            self.check_shows(False, 1, Ward("a"), ways)
        town = Town(Lane("l", "a", "b"))
        for ways in (WAYS, (), {}, False, 0, "", Ways("a", {"b": ()}, {"b": ()}), Ways(None, None, None)):
            self.assertIs(False, shows_strength(town, Signs.none(), Strength(0, Ward("a"), ways)))
        self.assertIs(True, shows_strength(town, Signs.none(), Strength(0, Ward("a"), None)))
        for number in (False, -1, 1, None):
            self.assertIs(False, shows_strength(town, Signs.none(), Strength(number, Ward("a"), None)))

    def test_ways_for_a_number_that_is_not_the_least(self):
        town = ring_of(3, Avenue)
        self.assertIs(False, shows_strength(town, Signs.none(), Strength(1, Ward("a"), ways_of(town, Signs.none(), 1))))
        self.assertIs(True, shows_strength(town, Signs.none(), Strength(2, Ward("a"), ways_of(town, Signs.none(), 2))))

    def test_any_value(self):
        for value in all_values():
            self.assertIs(False, self.check_stays(value, shows_strength, triangle(), RING, value))
            self.check_shows(value == 1 and not isinstance(value, bool), value, Ward("a"), WAYS)
            self.check_shows(value in (Ward("a"), Ward("b", "c")), 1, value, WAYS)
            self.check_shows(False, 1, Ward("a"), value)
        for value in no_strings():
            self.assertIs(False, shows_strength(triangle(), RING.turned("s"), value))


if __name__ == "__main__":
    unittest.main()
