"""signtown/works.py: works made and asked."""

import operator
import random
import unittest

from signtown.errors import BadNeed, BadTown, NoSign
from signtown.signs import Signs
from signtown.streets import Avenue, Lane, Road
from signtown.towns import Town
from signtown.works import Works
from plain_towns import RING
from some_towns import (
    all_signs, complete, drawn_town, many_streets, mixed, some_towns, town_again, triangle)
from values import Case, all_values, no_names, shown, values_but


def towns_of_all_sizes():
    draw = random.Random(40)
    towns = [Town()] + [Town(*many_streets(many)) for many in range(1, 15)] + some_towns()
    return towns + [drawn_town(draw, 7, 14, (Road, Road, Lane, Avenue)), complete(5)]


class MadeTest(Case):
    def test_towns_of_none_to_fourteen_streets(self):
        for town in towns_of_all_sizes():
            for need in (1, 2, 20):
                works = self.check_stays(town, Works, town, need)
                self.assertEqual([Town, town, Signs, Signs.none()], [
                    type(works.town), works.town, type(works.given), works.given])
                self.check_same(town.roads, works.left)
                self.check_same(need, works.need)
                self.check_same(0, len(works))
                self.check_same(0, works.deeds)

    def test_needs(self):
        for need in range(1, 21):
            self.check_same(need, Works(triangle(), need).need)
        self.check_same(1, Works(triangle()).need)

    def test_refused(self):
        for value in values_but(Town):
            for need in (1, 0, None):
                self.check_refused([value], BadTown, {"part": "town"}, Works, value, need)
            self.check_refused([value], BadTown, {"part": "town"}, Works, value)
        for town in (triangle(), Town()):
            for value in all_values():
                if type(value) is not int or not 1 <= value <= 20:
                    self.check_refused([value], BadNeed, {"value": value}, Works, town, value)

    def test_by_name(self):
        self.check_equal(Works(triangle(), 3), Works(need=3, town=triangle()))


class AskedTest(Case):
    def test_behind_each_sign(self):
        draw = random.Random(41)
        for town in (triangle(), mixed(), complete(4), Town(*many_streets(14))):
            for signs in draw.sample(all_signs(town), 4):
                works, given = Works(town, 2), {}
                for name in draw.sample(town.roads, len(town.roads)):
                    works[name] = signs[name]
                    given[name] = signs.parts[name]
                    self.check_given(works, town, given)

    def check_given(self, works, town, given):
        self.assertEqual([town, given, 2, len(given)], [works.town, works.given.parts, works.need, works.deeds])
        self.check_same(tuple(sorted(set(town.roads) - set(given))), works.left)
        self.check_same(len(given), len(works))
        for name in [*town.names, "zz", "a", "b"]:
            self.assertIs(name in given, name in works)
            if name in given:
                self.assertEqual(given[name][1], works[name])
            else:
                self.check_raises(NoSign, {"name": name}, operator.getitem, works, name)

    def test_values_of_all_kinds(self):
        works = Works(triangle())
        works["r"] = "a"
        for value in no_names() + ["a", "b", "c", "s", "t", "z"]:
            before = shown(works)
            self.assertIs(False, value in works)
            self.check_refused([value], NoSign, {"name": value}, operator.getitem, works, value)
            self.assertEqual(before, shown(works))
        self.assertIs(True, "r" in works)

    def test_no_works_can_be_iterated_over(self):
        calls = [iter, list, tuple, sorted, dict, sum, all, lambda value: [*value], lambda value: list(zip(value))]
        for works in (Works(Town()), Works(triangle())):
            for call in calls:
                with self.assertRaises(TypeError):
                    call(works)

    def test_the_town_and_what_was_returned_stay(self):
        town = triangle()
        works = Works(town)
        before = shown(town)
        first, given = works.town, works.given
        works["r"] = "a"
        works.put(Lane("s", "y", "z"))
        works.shut("t")
        self.assertEqual([before, before, {}], [shown(town), shown(first), given.parts])
        parts = works.given.parts
        parts.clear()
        self.assertEqual({"r": ("b", "a")}, works.given.parts)


class EqualTest(Case):
    def test_equal_towns_signs_and_needs(self):
        works = Works(triangle(), 2)
        works.give(RING - "s")
        other = Works(town_again(triangle()), 1)
        for name, goal in (("t", "c"), ("t", "a"), ("r", "b")):
            self.check_unlike(works, other)
            other[name] = goal
        self.check_unlike(works, other)
        other.need = 2
        self.check_equal(works, other)
        other["r"] = "a"
        self.check_unlike(works, other)
        other.undo()
        self.check_equal(works, other)
        other.put(Road("s", "b", "c", 0, 4))
        self.check_unlike(works, other)

    def test_nothing_else_is_equal(self):
        works = Works(triangle())
        for value in all_values() + [triangle(), (triangle(), Signs.none(), 1), Signs.none()]:
            self.check_unlike(works, value)
        self.check_unlike(Works(Town()), Town())


class TwinTest(Case):
    def test_a_twin_goes_its_own_way(self):
        works = Works(triangle(), 2)
        works["r"] = "a"
        works.shut("t")
        twin = works.twin()
        self.assertEqual([Works, 0, 2], [type(twin), twin.deeds, works.deeds])
        self.check_equal(works, twin)
        twin["s"] = "b"
        twin.need = 3
        self.assertEqual([2, {"r": ("b", "a")}, 2], [works.need, works.given.parts, works.deeds])
        works.undo()
        self.assertEqual([("r", "s"), 2, 3], [twin.town.names, twin.deeds, twin.need])
        self.assertEqual(["need", "sign"], [twin.undo(), twin.undo()])

    def test_twins_of_twins(self):
        works = Works(mixed(), 4)
        self.check_equal(works, works.twin().twin())
        self.assertIsNot(works, works.twin())


if __name__ == "__main__":
    unittest.main()
