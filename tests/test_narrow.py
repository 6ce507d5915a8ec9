"""signtown/narrow.py: narrow wards of good signs, and signs that can be turned alone."""

import itertools
import random
import unittest

from signtown.errors import BadNeed, BadSigns, BadTown, Empty, NoCorner, NoRoad, NotGood
from signtown.narrow import Tied, Turned, Turning, narrow_around, narrow_wards, turn_alone
from signtown.signs import Signs
from signtown.streets import Avenue, Lane, Road
from signtown.towns import Town
from signtown.wards import Ward
from by_definition import are_ways, counts_into, good_by_counts
from some_towns import (
    all_signs, complete, drawn_rounds, ring_of, signs_again, some_towns, town_again, triangle)
from values import Case, all_values

RING = Signs({"r": ("a", "b"), "s": ("b", "c"), "t": ("c", "a")})


def good_signs():
    """Towns, good signs of them and the needs for which these are good."""
    draw = random.Random(6)
    towns = some_towns() + [complete(4), ring_of(4) | Avenue("x", "a", "c"), ring_of(7), ring_of(5, Avenue)]
    towns += [drawn_rounds(draw, corners, 2, kinds) for corners in (3, 4, 5, 6, 7)
              for kinds in ((Avenue,), (Road, Avenue), (Lane, Avenue, Avenue))]
    found = []
    for town in towns:
        right = [signs for signs in all_signs(town)[:300] if good_by_counts(town, signs, 1)]
        for signs in right[:12]:
            least = min(counts_into(town, signs).values())
            found += [(town, signs, need) for need in range(1, least + 1)]
    return found


GOOD = good_signs()


class NarrowWardsTest(Case):
    def test_against_counts(self):
        self.assertGreater(len(GOOD), 100)
        for town, signs, need in GOOD:
            wanted = [ward for ward, number in counts_into(town, signs).items() if number == need]
            found = self.check_stays([town, signs], lambda: list(narrow_wards(town, signs, need)))
            self.assertEqual([Ward] * len(wanted), [type(ward) for ward in found])
            self.assertEqual(wanted, [ward.corners for ward in found])

    def test_it_is_a_generator(self):
        found = narrow_wards(need=1, signs=RING, town=triangle())
        self.assertIs(iter(found), iter(found))
        self.assertEqual(["a", "b", "c", "a,b", "a,c", "b,c"], [str(ward) for ward in found])
        self.assertEqual([], list(found))

    def test_errors_come_at_the_latest_with_the_first_ward(self):
        for error, fields, values in (
                (BadTown, {"part": "town"}, (None, RING, 1)), (BadSigns, {"part": "signs"}, (triangle(), None, 1)),
                (BadSigns, {"part": "roads"}, (triangle(), RING - "r", 1)),
                (BadNeed, {"value": 0}, (triangle(), RING, 0)),
                (Empty, {}, (Town(), Signs.none(), 1)), (NotGood, {"need": 2}, (triangle(), RING, 2))):
            self.check_raises(error, fields, lambda: next(iter(narrow_wards(*values))))

    def test_good_signs_without_narrow_wards(self):
        town = ring_of(3, Avenue)
        self.assertEqual([[], 6], [list(narrow_wards(town, Signs.none(), 1)),
                                   len(list(narrow_wards(town, Signs.none(), 2)))])


class NarrowAroundTest(Case):
    def test_the_least_one(self):
        for town, signs, need in GOOD[::4]:
            narrow = [set(ward) for ward, number in counts_into(town, signs).items() if number == need]
            for corner, other in itertools.product(town.corners, repeat=2):
                found = self.check_stays([town, signs], narrow_around, town, signs, need, corner, other)
                right = [ward for ward in narrow if corner in ward and other not in ward]
                if right:
                    self.assertIs(Ward, type(found))
                    self.assertEqual(set.intersection(*right), set(found.corners))
                    self.assertIn(set(found.corners), right)
                else:
                    self.assertIsNone(found)

    def test_equal_corners(self):
        for corner in "abc":
            self.assertIsNone(narrow_around(triangle(), RING, 1, corner, corner))
        self.assertEqual(Ward("c"), narrow_around(other="a", corner="c", need=1, signs=RING, town=triangle()))

    def test_the_same_again(self):
        for town, signs, need in GOOD[::12]:
            for corner, other in itertools.permutations(town.corners, 2):
                self.assertEqual(narrow_around(town, signs, need, corner, other),
                                 narrow_around(town_again(town), signs_again(signs), need, corner, other))

    def test_no_corner(self):
        for value in all_values():
            if not isinstance(value, str) or value not in ("a", "b", "c"):
                for other in ("a", "z", None, value):
                    self.check_raises(NoCorner, {"name": value}, narrow_around, triangle(), RING, 1, value, other)
                    self.check_raises(NotGood, {"need": 2}, narrow_around, triangle(), RING, 2, value, other)
                self.check_raises(NoCorner, {"name": value}, narrow_around, triangle(), RING, 1, "a", value)
        self.check_raises(NoCorner, {"name": "r"}, narrow_around, triangle(), RING, 1, "r", "s")

    def test_orders(self):
        self.check_raises(NotGood, {"need": 1}, narrow_around, triangle(), RING.turned("r"), 1, None, None)
        self.check_raises(Empty, {}, narrow_around, Town(), Signs.none(), 1, None, None)
        self.check_raises(BadNeed, {"value": 21}, narrow_around, Town(), Signs.none(), 21, None, None)


class TurnAloneTest(Case):
    def test_against_counts(self):
        many = {True: 0, False: 0}
        for town, signs, need in GOOD[::2]:
            for name in town.roads:
                found = self.check_stays([town, signs], turn_alone, town, signs, need, name)
                self.assertIsInstance(found, Turning)
                turned = signs.turned(name)
                wanted = good_by_counts(town, turned, need)
                self.assertIs(wanted, bool(found))
                many[wanted] += 1
                if wanted:
                    self.assertEqual([Turned, turned], [type(found), found.signs])
                    self.assertTrue(are_ways(town, turned, need, found.ways))
                else:
                    self.assertIs(Tied, type(found))
                    self.assertEqual(need, counts_into(town, signs)[found.ward.corners])
                    self.assertEqual([True, False], [signs[name] in found.ward, signs.tail(name) in found.ward])
                self.check_equal(found, turn_alone(town_again(town), signs_again(signs), need, name))
        self.assertGreater(min(many.values()), 10)

    def test_plain_cases(self):
        town = triangle() | Avenue("p", "a", "b")
        found = turn_alone(name="r", need=1, signs=RING, town=town)
        self.assertEqual([True, RING.turned("r")], [bool(found), found.signs])
        self.assertEqual(Tied(Ward("c")), turn_alone(town, RING, 1, "s"))
        self.assertEqual(Tied(Ward("b")), turn_alone(triangle(), RING, 1, "r"))

    def test_no_road(self):
        town = triangle() | Avenue("p", "a", "b") | Lane("l", "c", "b")
        for value in all_values() + ["p", "l"]:
            if not isinstance(value, str) or value not in ("r", "s", "t"):
                for need in (1, 2, 20):
                    self.check_refused([town, value], NoRoad, {"name": value}, turn_alone, town, RING, need, value)
                self.check_raises(NoRoad, {"name": value}, turn_alone, town, RING.turned("s"), 1, value)

    def test_orders(self):
        self.check_raises(NotGood, {"need": 2}, turn_alone, triangle(), RING, 2, "r")
        self.check_raises(Empty, {}, turn_alone, Town(), Signs.none(), 1, None)
        self.check_raises(BadNeed, {"value": True}, turn_alone, triangle(), RING, True, None)
        self.check_raises(BadSigns, {"part": "roads"}, turn_alone, triangle(), RING - "r", True, None)


if __name__ == "__main__":
    unittest.main()
