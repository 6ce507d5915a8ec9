"""signtown/weights.py: what weights sum up to in a town, and how they are cleared."""

import itertools
import random
import unittest

from signtown.errors import BadNeed, BadTown, BadWeights, Empty
from signtown.streets import Avenue, Lane, Road
from signtown.towns import Town
from signtown.wards import Ward
from signtown.weights import Weights
from by_definition import are_clear, bound_of, excess_of, needs_of, wards_of
from some_towns import complete, drawn_town, ring_of, some_towns, town_again, triangle
from values import Case, all_values, values_but

NEEDS = (1, 2, 3, 20)
SQUARE = Town(Road("e", "a", "b"), Road("f", "b", "c"), Road("g", "c", "d"), Road("h", "a", "d"))


def drawn_weights(draw, town, many, digits):
    """The parts of weights on so many wards of the town, or on all of them."""
    wards = wards_of(town)
    return {ward: draw.randint(1, 10 ** draw.choice([1, digits])) for ward in draw.sample(wards, min(many, len(wards)))}


def towns_with_parts():
    """Towns with the parts of weights on their wards."""
    draw = random.Random(9)
    towns = some_towns() + [SQUARE, complete(4), complete(5), ring_of(7), ring_of(6, Avenue)]
    towns += [drawn_town(draw, corners, 14, (Road, Road, Lane, Avenue), 12) for corners in range(2, 8)]
    return [(town, drawn_weights(draw, town, many, digits)) for town in towns
            for many, digits in ((0, 1), (1, 1), (3, 1), (8, 12), (40, 50), (126, 59))]


class SummedTest(Case):
    def test_sums_by_hand(self):
        town = Town(Road("r", "a", "b", 3, -4), Road("s", "b", "c", 1, 2), Lane("l", "a", "b"), Avenue("x", "a", "b"),
                    Avenue("y", "b", "c"))
        weights = Weights({("a",): 5, ("b",): 2, ("b", "c"): 3})
        # Settled streets lead in: one into a, three into b, two into b and c together.
        self.assertEqual([0 - 4 - 3, 5 - 2 + 0], [weights.needs(town, 1), weights.needs(town, 2)])
        # The numbers of r are 3 - 5 and -4 - 5, those of s are 1 - 0 and 2 - 2.
        self.assertEqual([-7 - 9, 3 - 9], [weights.bound(town, 1), weights.bound(town, 2)])
        self.assertEqual([-7 - 7, 3 - 7, 13 - 7], [weights.excess(town, need) for need in (1, 2, 3)])
        self.assertEqual(-16, weights.bound(need=1, town=town))
        self.assertEqual([3, -14], [weights.needs(need=2, town=town), weights.excess(need=1, town=town)])

    def test_no_weights(self):
        for town in some_towns():
            for need in NEEDS:
                cheap = sum(min(road.there, road.back) for road in town if isinstance(road, Road))
                none = Weights.none()
                self.assertEqual([0, cheap], [none.needs(town, need), none.bound(town, need)])
                self.assertEqual(0, none.excess(town, need))

    def test_against_the_definitions(self):
        for town, parts in towns_with_parts():
            weights = Weights(parts)
            for need in NEEDS:
                for call, wanted in (
                        (weights.needs, needs_of), (weights.bound, bound_of), (weights.excess, excess_of)):
                    found = self.check_stays([town, weights], call, town, need)
                    self.check_same(wanted(parts, town, need), found)

    def test_avenues_count_on_both_sides(self):
        town = Town(Avenue("x", "a", "b"), Lane("l", "a", "b"))
        weights = [Weights({("a",): 3}), Weights({("b",): 3}), Weights({("a",): 1, ("b",): 1})]
        self.assertEqual([0, -3, -1], [one.needs(town, 1) for one in weights])
        self.assertEqual([0, -3, -1], [one.bound(town, 1) for one in weights])
        self.assertEqual([57, 54, 37], [one.excess(town, 20) for one in weights])


class ClearTest(Case):
    def test_each_two_wards(self):
        for town in [SQUARE, triangle(), ring_of(2), complete(5)]:
            for one, other in itertools.product(wards_of(town), repeat=2):
                weights = Weights({one: 1, other: 2})
                self.assertIs(are_clear(weights.parts, town), self.check_stays([town, weights], weights.is_clear, town))

    def test_many_wards(self):
        draw = random.Random(2)
        found = {True: 0, False: 0}
        for town in (SQUARE, complete(5), ring_of(7), triangle() | Lane("l", "a", "z")):
            for many in (0, 1, 2, 3, 4, 5, 6):
                for _ in range(20):
                    weights = Weights(drawn_weights(draw, town, many, 1))
                    found[are_clear(weights.parts, town)] += 1
                    self.assertIs(are_clear(weights.parts, town), weights.is_clear(town=town))
        self.assertGreater(min(found.values()), 50)

    def test_wards_with_all_corners_together_do_not_cross(self):
        weights = Weights({("a", "b"): 1, ("b", "c"): 1})
        self.assertEqual([True, False], [weights.is_clear(triangle()), weights.is_clear(SQUARE)])


class ClearedTest(Case):
    def check_cleared(self, town, parts):
        weights = Weights(parts)
        found = self.check_stays([town, weights], weights.cleared, town)
        self.assertIs(Weights, type(found))
        self.assertTrue(are_clear(found.parts, town))
        for corner in [*town.corners, "zz"]:
            self.assertEqual(weights(corner), found(corner))
        for need in NEEDS:
            self.assertGreaterEqual(found.bound(town, need), weights.bound(town, need))
            self.assertGreaterEqual(found.excess(town, need), weights.excess(town, need))
        draw = random.Random(len(parts))
        for digits in (1, 12):
            other = town
            for name in town.roads:
                there, back = draw.randint(-10 ** digits + 1, 10 ** digits - 1), draw.randint(-9, 9)
                other = other.priced(name, there=there, back=back)
            self.assertGreaterEqual(found.bound(other, 1), weights.bound(other, 1))
        again = Weights({key: parts[key] for key in sorted(parts, reverse=True)})
        self.check_equal(found, again.cleared(town_again(town)))
        self.check_equal(found, found.cleared(town))

    def test_cleared(self):
        for town, parts in towns_with_parts():
            self.check_cleared(town, parts)

    def test_each_two_wards(self):
        for one, other in itertools.combinations(wards_of(ring_of(5)), 2):
            self.check_cleared(ring_of(5), {one: 2, other: 3})

    def test_clear_weights_stay(self):
        for parts in ({}, {("a",): 5}, {("a",): 5, ("a", "b"): 1}, {("a", "b"): 1, ("c", "d"): 7}):
            self.assertEqual(parts, Weights(parts).cleared(town=SQUARE).parts)

    def test_plain_case(self):
        found = Weights({("a", "b"): 3, ("b", "c"): 1}).cleared(SQUARE)
        self.assertEqual({("a", "b"): 2, ("b",): 1, ("a", "b", "c"): 1}, found.parts)

    def test_a_light_ward_that_comes_again_and_again(self):
        # Moved in a bad order, the light ward would come again once for each unit of the heavy ones.
        self.check_cleared(ring_of(5), {("a", "b"): 1, ("b", "c"): 10 ** 59, ("a", "b", "d"): 10 ** 59 - 1})
        for one, other, more in itertools.permutations([1, 10 ** 30, 10 ** 59], 3):
            self.check_cleared(ring_of(5), {("a", "b"): one, ("b", "c"): other, ("a", "b", "d"): more})

    def test_all_wards_of_seven_corners(self):
        draw = random.Random(7)
        for _ in range(3):
            self.check_cleared(ring_of(7), drawn_weights(draw, ring_of(7), 126, 60))


class RefusedTest(Case):
    FIVE = Weights({("a",): 5})
    WITH_NEED = ("needs", "bound", "excess")
    ALONE = ("is_clear", "cleared")

    def check_all(self, error, fields, weights, town):
        """All five raise this, with a need that is right."""
        for name in self.WITH_NEED:
            self.check_refused([weights, town], error, fields, getattr(weights, name), town, 1)
        for name in self.ALONE:
            self.check_refused([weights, town], error, fields, getattr(weights, name), town)

    def test_no_town(self):
        for value in values_but(Town):
            for weights in (self.FIVE, Weights({("z",): 1}), Weights.none()):
                self.check_all(BadTown, {"part": "town"}, weights, value)
            for need in (0, None, 21):
                for name in self.WITH_NEED:
                    self.check_raises(BadTown, {"part": "town"}, getattr(self.FIVE, name), value, need)

    def test_no_need(self):
        for value in all_values():
            if not isinstance(value, int) or isinstance(value, bool) or not 1 <= value <= 20:
                for weights in (self.FIVE, Weights({("z",): 1}), Weights.none()):
                    for town in (triangle(), Town()):
                        for name in self.WITH_NEED:
                            self.check_raises(BadNeed, {"value": value}, getattr(weights, name), town, value)

    def test_wards_of_other_towns(self):
        for parts in ({("z",): 1}, {("a",): 1, ("a", "z"): 1}, {("a", "b", "c"): 1}, {("a", "b", "c", "d"): 1},
                      {("r",): 1}):
            self.check_all(BadWeights, {"part": "town"}, Weights(parts), triangle())
            self.check_all(BadWeights, {"part": "town"}, Weights({("b",): 2, **parts}), triangle())
            self.check_all(BadWeights, {"part": "town"}, Weights(parts), Town())

    def test_empty(self):
        self.check_all(Empty, {}, Weights.none(), Town())


if __name__ == "__main__":
    unittest.main()
