"""signtown/counts.py: how many roads can lead to a corner, and signs with given in-counts."""

import itertools
import random
import unittest

from signtown.best import Never, cheapest
from signtown.counts import Counted, CountSpan, Crowded, count_span, counted, signs_of
from signtown.errors import BadNeed, BadPrice, BadTown, Empty, NoCorner
from signtown.lookers import Looker
from signtown.signs import Signs
from signtown.streets import Avenue, Lane, Road
from signtown.towns import Town
from signtown.weights import Weights
from by_definition import counts_into, in_counts_of
from some_towns import (
    all_signs, complete, drawn_rounds, drawn_town, many_streets, mixed, ring_of, some_towns, texts, town_again,
    triangle)
from values import Case, all_values, no_prices, values_but

SMALL = [(2, 3), (3, 2), (3, 3), (4, 2)]
KINDS = (Road, Road, Road, Lane, Avenue)


def small_towns():
    draw = random.Random(17)
    return some_towns() + [complete(4), ring_of(5)] + [
        drawn_rounds(draw, *draw.choice(SMALL), draw.choice([(Road,), KINDS])) for _ in range(30)]


def roads_within(town, corners):
    return len([road for road in town if isinstance(road, Road) and set(road.ends) <= set(corners)])


class CountedTest(Case):
    def test_the_price_is_the_in_count(self):
        for town in some_towns():
            for corner, by in itertools.product(town.corners, (1, -1, 0, 7, -10 ** 12 + 1)):
                found = self.check_stays(town, counted, town, corner, by)
                self.assertEqual([town.names, town.corners], [found.names, found.corners])
                for street, other in zip(town, found):
                    if isinstance(street, Road):
                        self.assertEqual([Road, street.ends], [type(other), other.ends])
                        self.assertEqual([by if end == corner else 0 for end in other.ends], [
                            other.price(end) for end in other.ends])
                    else:
                        self.assertEqual(street, other)
                for signs in all_signs(town)[:8]:
                    self.assertEqual(by * signs(corner), signs.price(found))

    def test_plain_cases(self):
        town = triangle() | Lane("l", "a", "b") | Avenue("x", "a", "c")
        self.assertEqual(["lane l a b", "road r a b 0 1", "road s b c 0 0", "road t a c 0 1", "avenue x a c"],
                         texts(counted(town, "a")))
        self.assertEqual(["lane l a b", "road r a b 0 0", "road s b c -4 0", "road t a c -4 0", "avenue x a c"],
                         texts(counted(by=-4, corner="c", town=town)))

    def test_no_corner(self):
        for value in all_values():
            if not isinstance(value, str) or value not in ("a", "b", "c"):
                for more in ((), (1,), (None,), (10 ** 12,)):
                    self.check_refused([value], NoCorner, {"name": value}, counted, triangle(), value, *more)
                self.check_raises(NoCorner, {"name": value}, counted, Town(), value)
        self.check_raises(NoCorner, {"name": "r"}, counted, triangle(), "r")

    def test_no_price(self):
        for value in no_prices():
            self.check_refused([value], BadPrice, {"value": value}, counted, triangle(), "a", value)

    def test_no_town(self):
        for value in values_but(Town):
            self.check_refused(value, BadTown, {"part": "town"}, counted, value, None, None)


class CountSpanTest(Case):
    def test_against_all_good_signs(self):
        found = {True: 0, False: 0}
        for town in small_towns():
            rows = [(min(counts_into(town, signs).values()), signs) for signs in all_signs(town)]
            for need in (1, 2, 3):
                right = [signs for least, signs in rows if least >= need]
                for corner in town.corners:
                    span = self.check_stays(town, count_span, town, need, corner)
                    found[bool(span)] += 1
                    if right:
                        self.check_span(town, need, corner, span, [signs(corner) for signs in right])
                    else:
                        self.assertIs(Never, type(span))
                        self.assertIs(True, Looker(town, need)(span))
        self.assertGreater(min(found.values()), 50)

    def check_span(self, town, need, corner, span, wanted):
        """The least and the greatest of the wanted in-counts, with answers that are right."""
        self.assertEqual([CountSpan, True], [type(span), bool(span)])
        self.check_same(min(wanted), span.least)
        self.check_same(max(wanted), span.most)
        self.assertEqual([span.least, -span.most], [span.low.cost, span.high.cost])
        self.assertIs(True, Looker(counted(town, corner), need)(span.low))
        self.assertIs(True, Looker(counted(town, corner, -1), need)(span.high))
        self.check_equal(span, count_span(town_again(town), need, corner))
        self.assertEqual([span.low, span.high], [
            cheapest(counted(town, corner), need), cheapest(counted(town, corner, -1), need)])

    def test_larger_towns(self):
        draw = random.Random(18)
        for _ in range(4):
            town = drawn_rounds(draw, 7, 2, (Road,), 12)
            for corner in town.corners:
                span = count_span(corner=corner, need=1, town=town)
                self.assertLessEqual(1, span.least)
                self.assertLessEqual(span.least, span.most)
                self.assertLessEqual(span.most, 3)

    def test_no_corner(self):
        for value in all_values():
            if not isinstance(value, str) or value not in ("a", "b", "c"):
                for need in (1, 2):
                    self.check_refused([value], NoCorner, {"name": value}, count_span, triangle(), need, value)

    def test_orders(self):
        self.check_raises(BadTown, {"part": "town"}, count_span, None, None, None)
        self.check_raises(BadNeed, {"value": None}, count_span, Town(), None, None)
        self.check_raises(Empty, {}, count_span, Town(), 1, None)
        self.check_raises(NoCorner, {"name": None}, count_span, Town(Lane("l", "a", "b")), 1, None)


class SignsOfTest(Case):
    def check_signs(self, town, counts):
        """Signs with just these in-counts, or corners that show that there are none."""
        found = self.check_stays([town, counts], signs_of, town, counts)
        wanted = any(in_counts_of(town, signs) == counts for signs in self.every(town))
        self.assertIs(wanted, bool(found))
        if wanted:
            self.assertEqual([Counted, Signs, True], [type(found), type(found.signs), found.signs.fits(town)])
            self.assertEqual(counts, in_counts_of(town, found.signs))
        else:
            self.check_crowded(town, counts, found)
        again = {corner: counts[corner] for corner in list(counts)[::-1]}
        self.check_equal(found, signs_of(town_again(town), again))
        return wanted

    def every(self, town):
        """All signs, kept for each town."""
        if str(texts(town)) not in self.kept:
            self.kept[str(texts(town))] = all_signs(town)
        return self.kept[str(texts(town))]

    kept = {}

    def check_crowded(self, town, counts, found):
        self.assertEqual([Crowded, tuple], [type(found), type(found.corners)])
        if sum(counts.values()) != len(town.roads):
            self.assertEqual(town.corners, found.corners)
            return
        self.assertEqual(sorted(set(found.corners)), list(found.corners))
        self.assertTrue(set(found.corners) <= set(town.corners))
        self.assertGreater(roads_within(town, found.corners), sum(counts[corner] for corner in found.corners))

    def test_all_in_counts_of_small_towns(self):
        found = {True: 0, False: 0}
        for town in [triangle(), mixed(), complete(4), ring_of(2), Town(*many_streets(6)), Town(Lane("l", "a", "b"))]:
            for row in itertools.product(range(min(4, len(town.roads) + 1)), repeat=len(town.corners)):
                found[self.check_signs(town, dict(zip(town.corners, row)))] += 1
        self.assertGreater(min(found.values()), 30)

    def test_units_moved_added_and_taken_away(self):
        draw = random.Random(19)
        for _ in range(60):
            corners = draw.randint(2, 7)
            town = drawn_town(draw, corners, draw.randint(max(2, corners), 10), KINDS)
            counts = in_counts_of(town, draw.choice(self.every(town)))
            self.assertIs(True, self.check_signs(town, counts))
            one, other = draw.sample(town.corners, 2)
            for changes in ({one: 1, other: -1}, {one: 2, other: -2}, {one: 1}, {other: -1}):
                changed = {corner: counts[corner] + changes.get(corner, 0) for corner in counts}
                if min(changed.values()) >= 0:
                    self.check_signs(town, changed)

    def test_fourteen_roads(self):
        town = drawn_rounds(random.Random(20), 7, 2, (Road,))
        for signs in (Signs.cheap(town), ~Signs.cheap(town), Signs.cheap(town).turned("a", "c", "e", "g", "i", "k")):
            counts = in_counts_of(town, signs)
            self.assertEqual(counts, in_counts_of(town, signs_of(town, counts).signs))
        for corner in town.corners:
            counts = {other: 14 if other == corner else 0 for other in town.corners}
            self.check_crowded(town, counts, signs_of(town, counts))

    def test_plain_cases(self):
        self.assertEqual(Counted(Signs.none()), signs_of(Town(), {}))
        self.assertEqual(Counted(Signs.none()), signs_of(Town(Avenue("x", "a", "b")), {"a": 0, "b": 0}))
        self.assertEqual(Crowded(("a", "b")), signs_of(Town(Avenue("x", "a", "b")), {"a": 0, "b": 10 ** 59}))
        self.assertEqual(Crowded(("a", "b")), signs_of(counts={"a": 0, "b": 0, "c": 3}, town=triangle()))

    def test_wrong_counts(self):
        right = {"a": 1, "b": 1, "c": 1}
        for value in values_but(dict) + [{}, {"a": 1, "b": 1}, {**right, "d": 0}, {**right, "z": 1}, {**right, 1: 1},
                                         {"a": 1, "b": 1, "z": 1}, {"r": 1, "s": 1, "t": 1}, [("a", 1)], tuple(right)]:
            self.check_refused([value], BadTown, {"part": "counts"}, signs_of, triangle(), value)
        for number in (True, False, -1, -10 ** 59, None, "1", (1,), [1], {}, Weights.none()):
            for corner in "abc":
                counts = {**right, corner: number}
                self.check_refused(counts, BadTown, {"part": "counts"}, signs_of, triangle(), counts)
        for value in all_values():
            if value != {} or not isinstance(value, dict):
                self.check_refused([value], BadTown, {"part": "counts"}, signs_of, Town(), value)

    def test_no_town(self):
        for value in values_but(Town):
            for counts in ({}, None, {"a": True}):
                self.check_refused(value, BadTown, {"part": "town"}, signs_of, value, counts)


if __name__ == "__main__":
    unittest.main()
