"""signtown/moves.py: walks that can be turned in good signs of plain towns."""

import itertools
import random
import unittest

from signtown.errors import BadNeed, BadSigns, BadTown, Empty, Level, NoCorner, NotGood, Unlike
from signtown.moves import Moved, Stuck, Turn, exchange, move
from signtown.signs import Signs
from signtown.streets import Avenue, Lane, Road
from signtown.towns import Town
from signtown.wards import Ward
from by_definition import are_ways, counts_into, good_by_counts, in_counts_of
from plain_towns import ONE, PLAIN, RING, THREE
from some_towns import all_signs, drawn_rounds, mixed, ring_of, signs_again, town_again, triangle
from values import Case, all_values, values_but


class ExchangeTest(Case):
    def check_exchange(self, town, signs, other, need, corner):
        one, two = in_counts_of(town, signs), in_counts_of(town, other)
        found = self.check_stays([town, signs, other], exchange, town, signs, other, need, corner)
        self.assertEqual([Turn, corner, False], [type(found), found.start, found.is_ring])
        self.assertGreater(one[found.goal], two[found.goal])
        behind = found(signs)
        self.assertTrue(good_by_counts(town, behind, need))
        self.assertEqual({**one, corner: one[corner] + 1, found.goal: one[found.goal] - 1}, in_counts_of(town, behind))
        for stage in found.stages(signs):
            self.assertTrue(need == 1 or good_by_counts(town, stage, need - 1))
        self.check_equal(found, exchange(town_again(town), signs_again(signs), signs_again(other), need, corner))

    def test_against_the_counts_of_all_wards(self):
        many = 0
        for town, need, rows in PLAIN:
            for signs, other in itertools.product(rows, repeat=2):
                one, two = in_counts_of(town, signs), in_counts_of(town, other)
                for corner in town.corners:
                    if one[corner] < two[corner]:
                        many += 1
                        self.check_exchange(town, signs, other, need, corner)
                    else:
                        self.check_raises(Level, {"corner": corner}, exchange, town, signs, other, need, corner)
        self.assertGreater(many, 100)

    def test_plain_case(self):
        found = exchange(corner="a", need=1, other=~ONE, signs=ONE, town=THREE)
        self.assertEqual(["a", "b", 1], [found.start, found.goal, len(found)])
        self.assertIn(found.names, (("e",), ("f",)))

    def test_level_if_the_counts_are_equal(self):
        for corner in "abc":
            self.check_raises(Level, {"corner": corner}, exchange, triangle(), RING, ~RING, 1, corner)
            self.check_raises(Level, {"corner": corner}, exchange, triangle(), RING, RING, 1, corner)
        self.check_raises(Level, {"corner": "b"}, exchange, THREE, ONE, ~ONE, 1, "b")

    def test_no_corner(self):
        for value in all_values():
            if not isinstance(value, str) or value not in ("a", "b"):
                self.check_refused([value], NoCorner, {"name": value}, exchange, THREE, ONE, ~ONE, 1, value)
                self.check_raises(NotGood, {"need": 2}, exchange, THREE, ONE, ~ONE, 2, value)

    def test_not_good(self):
        bad = Signs({"e": ("a", "b"), "f": ("a", "b"), "g": ("a", "b")})
        for signs, other, need in ((bad, ONE, 1), (ONE, bad, 1), (bad, bad, 1), (ONE, ~ONE, 2), (ONE, bad, 20)):
            for corner in ("a", "z", None):
                self.check_refused([signs, other], NotGood, {"need": need}, exchange, THREE, signs, other, need, corner)


class MoveTest(Case):
    def check_move(self, town, signs, need, start, goal):
        found = self.check_stays([town, signs], move, town, signs, need, start, goal)
        narrow = [ward for ward, number in counts_into(town, signs).items()
                  if number == need and goal in ward and start not in ward]
        if narrow:
            self.assertEqual([Stuck, Ward, False], [type(found), type(found.ward), bool(found)])
            self.assertIn(found.ward.corners, narrow)
        else:
            self.assertEqual([Moved, Turn, True], [type(found), type(found.turn), bool(found)])
            self.assertEqual([start, goal], [found.turn.start, found.turn.goal])
            self.assertEqual(found.turn(signs), found.signs)
            self.assertTrue(good_by_counts(town, found.signs, need))
            self.assertTrue(are_ways(town, found.signs, need, found.ways))
            one, two = in_counts_of(town, signs), in_counts_of(town, found.signs)
            self.assertEqual({**one, start: one[start] + 1, goal: one[goal] - 1}, two)
        self.check_equal(found, move(town_again(town), signs_again(signs), need, start, goal))
        return bool(found)

    def test_against_the_counts_of_all_wards(self):
        many = {True: 0, False: 0}
        for town, need, rows in PLAIN:
            for signs in rows:
                for start, goal in itertools.permutations(town.corners, 2):
                    many[self.check_move(town, signs, need, start, goal)] += 1
        self.assertGreater(min(many.values()), 50)

    def test_seven_corners(self):
        draw = random.Random(22)
        town = drawn_rounds(draw, 7, 2, (Road,))
        signs = next(signs for signs in all_signs(town) if good_by_counts(town, signs, 1))
        for start, goal in itertools.permutations(town.corners, 2):
            self.check_move(town, signs, 1, start, goal)

    def test_in_a_ring_of_roads_nothing_moves_but_the_ring_turns(self):
        for many in range(2, 8):
            town = ring_of(many)
            signs = next(signs for signs in all_signs(town) if good_by_counts(town, signs, 1))
            for start, goal in itertools.permutations(town.corners, 2):
                self.assertIs(False, bool(move(town, signs, 1, start, goal)))
            names = [name for name in town.names if signs.tail(name) == "a"]
            while len(names) < many:
                names += [name for name in town.names if signs.tail(name) == signs[names[-1]]]
            turned = Turn(tuple(names), "a", "a")(signs)
            self.assertEqual([True, in_counts_of(town, signs)], [turned == ~signs, in_counts_of(town, turned)])
            self.assertTrue(good_by_counts(town, turned, 1))

    def test_plain_cases(self):
        self.assertEqual(Stuck(Ward("a")), move(THREE, ONE, 1, "b", "a"))
        found = move(goal="b", start="a", need=1, signs=ONE, town=THREE)
        self.assertEqual([2, ("a", "b")], [found.signs("a"), (found.turn.start, found.turn.goal)])
        self.assertEqual(Stuck(Ward("c")), move(triangle(), RING, 1, "a", "c"))

    def test_no_corner(self):
        for value in all_values():
            if not isinstance(value, str) or value not in ("a", "b"):
                for other in ("a", "z", None, value):
                    self.check_refused([value], NoCorner, {"name": value}, move, THREE, ONE, 1, value, other)
                    self.check_raises(NotGood, {"need": 2}, move, THREE, ONE, 2, value, other)
                self.check_refused([value], NoCorner, {"name": value}, move, THREE, ONE, 1, "b", value)
        self.check_raises(NoCorner, {"name": "e"}, move, THREE, ONE, 1, "e", "f")

    def test_level(self):
        for corner in "ab":
            self.check_raises(Level, {"corner": corner}, move, THREE, ONE, 1, corner, corner)
        self.check_raises(NotGood, {"need": 3}, move, THREE, ONE, 3, "a", "a")


class RefusedTest(Case):
    def check_both(self, error, fields, town, signs, need):
        """Both functions raise this, whatever stands behind."""
        for more in (("a", "b"), ("a", "a"), ("z", "a"), (None, None)):
            self.check_raises(error, fields, move, town, signs, need, *more)
        for corner in ("a", "z", None):
            self.check_raises(error, fields, exchange, town, signs, signs, need, corner)

    def test_towns_that_are_not_plain(self):
        for street in (Lane("l", "a", "b"), Avenue("x", "b", "c"), Lane("l", "y", "z")):
            for need in (1, 20):
                self.check_both(Unlike, {"part": "kinds"}, triangle() | street, RING, need)
                self.check_both(Unlike, {"part": "kinds"}, triangle() | street, RING.turned("r"), need)
                self.check_both(BadNeed, {"value": 0}, triangle() | street, RING, 0)
                self.check_both(BadSigns, {"part": "roads"}, triangle() | street, RING - "r", 0)
        self.check_both(Unlike, {"part": "kinds"}, mixed(), Signs.cheap(mixed()), 1)

    def test_orders(self):
        self.check_both(Empty, {}, Town(), Signs.none(), 1)
        self.check_both(BadNeed, {"value": 21}, Town(), Signs.none(), 21)
        self.check_both(BadSigns, {"part": "signs"}, Town(), None, 21)
        self.check_both(BadTown, {"part": "town"}, None, None, 21)

    def test_other_signs(self):
        town = triangle() | Lane("l", "a", "b")
        for value in values_but(Signs) + [RING.parts]:
            for need in (1, 0):
                self.check_raises(BadSigns, {"part": "signs"}, exchange, triangle(), RING, value, need, None)
                self.check_raises(BadSigns, {"part": "signs"}, exchange, town, RING, value, need, None)
                self.check_raises(BadSigns, {"part": "roads"}, exchange, town, RING - "r", value, need, None)
        for other in (RING - "r", Signs.none(), RING | Signs({"z": ("a", "b")}),
                      (RING - "r") | Signs({"r": ("a", "c")})):
            for need in (1, 0):
                self.check_raises(BadSigns, {"part": "roads"}, exchange, triangle(), RING, other, need, None)
                self.check_raises(BadSigns, {"part": "roads"}, exchange, town, RING, other, need, None)
                self.check_raises(BadSigns, {"part": "signs"}, exchange, town, None, other, need, None)


if __name__ == "__main__":
    unittest.main()
