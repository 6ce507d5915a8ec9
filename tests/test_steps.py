"""signtown/steps.py: rows of turned walks from good signs to other good ones."""

import itertools
import random
import unittest

from signtown.errors import BadNeed, BadSigns, BadTown, Empty, NotGood, Unlike
from signtown.moves import Turn
from signtown.signs import Signs
from signtown.steps import Step, fewest_turns, shows_steps, steps
from signtown.streets import Avenue, Lane, Road
from signtown.towns import Town
from by_definition import good_by_counts, in_counts_of, walks_along
from plain_towns import ONE, PLAIN, RING, THREE
from some_towns import (
    all_signs, complete, drawn_rounds, drawn_town, mixed, ring_of, signs_again, some_towns, town_again, triangle)
from values import Case, values_but


def all_steps(town, signs, other, need):
    return list(steps(town, signs, other, need))


def first_step(town, signs, other, need):
    return next(steps(town, signs, other, need))


def half_the_differences(town, signs, other):
    one, two = in_counts_of(town, signs), in_counts_of(town, other)
    whole = sum(abs(one[corner] - two[corner]) for corner in town.corners)
    assert whole % 2 == 0
    return whole // 2


def turned_about(signs, names):
    """The signs with these roads turned, by their parts."""
    return Signs({name: pair[::-1] if name in names else pair for name, pair in signs.parts.items()})


class RowsCase(Case):
    def check_row(self, town, signs, other, need, row):
        """The steps are such as the document tells, one by one; returns how many are rings."""
        fewest = half_the_differences(town, signs, other)
        now, names = signs, []
        for at, step in enumerate(row):
            self.assertEqual([Step, Turn, Signs], [type(step), type(step.turn), type(step.signs)])
            start, goal, walk = step.turn.start, step.turn.goal, step.turn.names
            self.assertTrue(walks_along(town, now, start, goal, walk))
            self.assertEqual(turned_about(now, walk), step.signs)
            self.assertTrue(good_by_counts(town, step.signs, need))
            self.assertIs(at >= fewest, start == goal)
            names += walk if at >= fewest else ()
            now = step.signs
        self.assertGreaterEqual(len(row), fewest)
        self.assertEqual(len(set(names)), len(names))
        self.assertEqual(other, now)
        return len(row) - fewest


class StepsTest(RowsCase):
    def test_between_good_signs_of_plain_towns(self):
        most = {"turns": 0, "rings": 0}
        for town, need, rows in PLAIN:
            for signs, other in itertools.product(rows[:5], repeat=2):
                row = self.check_stays([town, signs, other], all_steps, town, signs, other, need)
                rings = self.check_row(town, signs, other, need, row)
                most = {"turns": max(most["turns"], len(row) - rings), "rings": max(most["rings"], rings)}
                self.assertIs(True, shows_steps(town, signs, other, need, row))
        self.assertGreaterEqual(min(most.values()), 2)

    def test_the_same_again_for_equal_arguments(self):
        for town, need, rows in PLAIN:
            for signs, other in zip(rows, rows[::-1]):
                row = all_steps(town, signs, other, need)
                self.check_equal(row, all_steps(town, signs, other, need))
                self.check_equal(row, all_steps(town_again(town), signs_again(signs), signs_again(other), need))

    def test_none_between_equal_signs(self):
        for town, need, rows in PLAIN:
            for signs in rows:
                self.assertEqual([], all_steps(town, signs, signs_again(signs), need))

    def test_rings_alone_where_the_in_counts_are_alike(self):
        many = 0
        for town, need in ((complete(4), 1), (complete(5), 1), (complete(5), 2), (ring_of(7), 1)):
            right = [signs for signs in all_signs(town) if good_by_counts(town, signs, need)]
            for signs, other in itertools.product(random.Random(23).sample(right, min(40, len(right))), repeat=2):
                if signs != other and in_counts_of(town, signs) == in_counts_of(town, other):
                    row = all_steps(town, signs, other, need)
                    self.assertEqual(len(row), self.check_row(town, signs, other, need, row))
                    self.assertTrue(all(step.turn.is_ring for step in row))
                    many += 1
        self.assertGreater(many, 20)

    def test_a_ring_of_roads_turns_as_a_whole(self):
        for many in range(2, 8):
            town = ring_of(many)
            signs = next(signs for signs in all_signs(town) if good_by_counts(town, signs, 1))
            row = all_steps(town, signs, ~signs, 1)
            self.assertEqual([1, sorted(town.names), ~signs], [
                len(row), sorted(row[0].turn.names), row[0].signs])

    def test_seven_corners_and_fourteen_roads(self):
        draw = random.Random(24)
        town = drawn_rounds(draw, 7, 2, (Road,))
        right = [signs for signs in draw.sample(all_signs(town), 2000) if good_by_counts(town, signs, 1)]
        for signs, other in zip(right[:6], right[6:12]):
            self.check_row(town, signs, other, 1, all_steps(town, signs, other, 1))

    def test_arguments_by_name(self):
        row = list(steps(need=1, other=~ONE, signs=ONE, town=THREE))
        self.check_equal(all_steps(THREE, ONE, ~ONE, 1), row)
        self.assertIs(True, shows_steps(value=row, need=1, other=~ONE, signs=ONE, town=THREE))
        self.assertEqual(1, fewest_turns(other=~ONE, town=THREE, signs=ONE))


class FewestTest(Case):
    def test_half_the_differences(self):
        draw = random.Random(25)
        towns = some_towns() + [complete(4)] + [
            drawn_town(draw, 4, 8, (Road, Road, Road, Lane, Avenue)) for _ in range(10)]
        for town in towns:
            rows = all_signs(town)
            for _ in range(20):
                signs, other = draw.choice(rows), draw.choice(rows)
                found = self.check_stays([town, signs, other], fewest_turns, town, signs, other)
                self.check_same(half_the_differences(town, signs, other), found)

    def test_towns_without_roads(self):
        for town in (Town(), Town(Lane("l", "a", "b")), Town(Avenue("x", "a", "b"))):
            self.check_same(0, fewest_turns(town, Signs.none(), Signs.none()))

    def test_signs_that_are_not_good(self):
        bad = Signs({"e": ("a", "b"), "f": ("a", "b"), "g": ("a", "b")})
        self.check_same(3, fewest_turns(THREE, bad, ~bad))
        self.check_same(0, fewest_turns(triangle(), RING, ~RING))

    def test_refused(self):
        for value in values_but(Town):
            self.check_raises(BadTown, {"part": "town"}, fewest_turns, value, None, None)
        for value in values_but(Signs):
            self.check_raises(BadSigns, {"part": "signs"}, fewest_turns, THREE, value, None)
            self.check_raises(BadSigns, {"part": "signs"}, fewest_turns, THREE, ONE, value)
            self.check_raises(BadSigns, {"part": "roads"}, fewest_turns, THREE, RING, value)
        self.check_raises(BadSigns, {"part": "roads"}, fewest_turns, THREE, ONE, ONE - "e")


class RefusedTest(Case):
    def check_all(self, error, fields, town, signs, other, need):
        """steps and shows_steps raise this, steps at the latest when its first item is asked for."""
        self.check_refused([town, signs, other], error, fields, first_step, town, signs, other, need)
        for value in (None, [], (), [Step(None, None)]):
            self.check_raises(error, fields, shows_steps, town, signs, other, need, value)

    def test_towns_that_are_not_plain(self):
        for street in (Lane("l", "a", "b"), Avenue("x", "b", "c"), Lane("l", "y", "z")):
            town = triangle() | street
            for need in (1, 20):
                self.check_all(Unlike, {"part": "kinds"}, town, RING, ~RING, need)
                self.check_all(Unlike, {"part": "kinds"}, town, RING.turned("r"), RING, need)
            self.check_all(BadNeed, {"value": 0}, town, RING, RING, 0)
            self.check_all(BadSigns, {"part": "roads"}, town, RING, RING - "r", 0)
            self.check_all(BadSigns, {"part": "signs"}, town, RING, None, 0)
            self.check_all(BadSigns, {"part": "roads"}, town, RING - "r", None, 0)
        self.check_all(Unlike, {"part": "kinds"}, mixed(), Signs.cheap(mixed()), Signs.cheap(mixed()), 1)

    def test_signs_that_are_not_good(self):
        bad = Signs({"e": ("a", "b"), "f": ("a", "b"), "g": ("a", "b")})
        for signs, other, need in ((bad, ONE, 1), (ONE, bad, 1), (bad, bad, 1), (ONE, ONE, 2), (ONE, ~ONE, 20)):
            self.check_all(NotGood, {"need": need}, THREE, signs, other, need)

    def test_orders(self):
        self.check_all(BadTown, {"part": "town"}, None, None, None, None)
        self.check_all(BadSigns, {"part": "signs"}, Town(), None, None, None)
        self.check_all(BadSigns, {"part": "roads"}, Town(), RING, None, None)
        self.check_all(BadSigns, {"part": "signs"}, Town(), Signs.none(), None, None)
        self.check_all(BadNeed, {"value": None}, Town(), Signs.none(), Signs.none(), None)
        self.check_all(Empty, {}, Town(), Signs.none(), Signs.none(), 20)


if __name__ == "__main__":
    unittest.main()
