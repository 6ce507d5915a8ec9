"""signtown/choices.py: what either sign of a road costs, and the signs of all cheapest plans, beside all signs."""

import itertools
import random
import unittest

from signtown.best import Best, Never, cheapest
from signtown.choices import Choice, choice, sure_signs
from signtown.errors import BadNeed, BadTown, Barred, Empty, NoCorner, NoRoad, NoSigns
from signtown.lookers import Looker
from signtown.signs import Signs
from signtown.streets import Avenue, Lane, Road
from signtown.towns import Town
from by_definition import counts_into, price_of
from plain_towns import RING, THREE
from some_towns import (
    LETTERS, all_signs, complete, drawn_rounds, drawn_town, mixed, ring_of, some_towns, town_again, triangle)
from values import Case, all_values, shown, values_but

KINDS = [(Road,), (Road, Road, Road, Lane), (Road, Road, Avenue), (Road, Road, Road, Lane, Avenue)]


def small_towns():
    """Towns of up to four corners and six roads, with prices that are equal, above and below 0."""
    draw = random.Random(29)
    towns = [triangle(), mixed(), complete(4), THREE] + some_towns()[2:7]
    for _ in range(25):
        corners, rounds = draw.choice([(2, 3), (3, 2), (4, 1)])
        towns.append(drawn_rounds(draw, corners, rounds, draw.choice(KINDS), draw.choice([0, 1])))
    for _ in range(20):
        corners = draw.choice([2, 3, 4])
        towns.append(drawn_town(draw, corners, 6, draw.choice(KINDS), draw.choice([0, 1, 12])))
    towns += [drawn_rounds(draw, draw.choice([2, 3, 4]), 1, (Road, Road, Lane)) for _ in range(15)]
    return towns + [triangle().priced("t", there=5, back=0), triangle().priced("r", there=-7, back=-7)]


def good_prices(town, need):
    """Pairs of all good signs and their prices."""
    rows = [signs for signs in all_signs(town) if min(counts_into(town, signs).values()) >= need]
    return [(signs, price_of(town, signs)) for signs in rows]


def least(prices):
    return min(prices) if prices else None


class ChoiceTest(Case):
    def check_choice(self, town, need, name, rows):
        road = town[name]
        found = self.check_stays(town, choice, town, need, name)
        self.assertEqual([Choice, name], [type(found), found.name])
        for answer, goal in ((found.one, road.one), (found.other, road.other)):
            streets = [street for street in town if street.name != name]
            plan = Town(*streets, Lane(name, road.far(goal), goal))
            self.check_equal(cheapest(plan, need), answer)
            self.assertIs(True, Looker(plan, need)(answer))
        prices = [least([price for signs, price in rows if signs[name] == goal]) for goal in road.ends]
        before = shown(found)
        for goal, wanted in zip(road.ends, prices):
            self.check_same(wanted, found.price(town, goal))
        self.check_same(None if None in prices else prices[1] - prices[0], found.gap(town))
        cheap = {signs[name] for signs, price in rows if price == least([price for _, price in rows])}
        self.check_same(cheap.pop() if len(cheap) == 1 else None, found.settles(town))
        self.assertEqual(before, shown(found))
        self.check_equal(found, choice(town_again(town), need, name))
        return tuple(price is None for price in prices)

    def test_against_all_signs(self):
        found = {}
        for town in small_towns():
            for need in (1, 2):
                rows = good_prices(town, need)
                for name in town.roads:
                    kind = self.check_choice(town, need, name, rows)
                    found[kind] = found.get(kind, 0) + 1
        self.assertEqual(4, len(found))
        self.assertGreater(min(found.values()), 5)

    def test_plain_cases(self):
        told = choice(triangle(), 1, "t")
        self.assertEqual([Best, Best], [type(told.one), type(told.other)])
        self.assertEqual([5, 10, 5, "a", 0], [
            told.price(triangle(), "a"), told.price(triangle(), "c"), told.gap(triangle()), told.settles(triangle()),
            told.one.cost])
        told = choice(name="t", need=2, town=triangle())
        self.assertEqual([Never, Never], [type(told.one), type(told.other)])
        self.assertEqual([None] * 4, [told.price(goal="a", town=triangle()), told.price(triangle(), "c"),
                                      told.gap(town=triangle()), told.settles(town=triangle())])

    def test_one_sign_alone(self):
        for lane, goal, prices in ((Lane("l", "a", "b"), "a", (7, None)), (Lane("l", "b", "a"), "b", (None, -2))):
            town = Town(lane, Road("r", "b", "a", 7, -2))
            told = choice(town, 1, "r")
            self.assertEqual([*prices, None, goal], [
                told.price(town, "a"), told.price(town, "b"), told.gap(town), told.settles(town)])

    def test_a_sign_stays_as_long_as_its_price_rises_by_the_gap_at_most(self):
        for town in (triangle(), complete(4)):
            for name in town.roads:
                told = choice(town, 1, name)
                goal, gap, road = told.settles(town), told.gap(town), town[name]
                if goal is None or gap is None:
                    continue
                for more in (0, abs(gap), abs(gap) + 1):
                    dearer = town.priced(name, **{"there" if goal == road.other else "back": road.price(goal) + more})
                    best = cheapest(dearer, 1)
                    self.assertIs(more <= abs(gap), choice(dearer, 1, name).price(dearer, goal) == best.cost)


class ChoiceRefusedTest(Case):
    def test_orders(self):
        self.check_raises(BadTown, {"part": "town"}, choice, None, None, None)
        self.check_raises(BadNeed, {"value": None}, choice, Town(), None, None)
        self.check_raises(Empty, {}, choice, Town(), 1, None)
        for value in all_values():
            if not isinstance(value, str) or value not in ("r", "s", "t"):
                for need in (1, 2):
                    self.check_refused([value], NoRoad, {"name": value}, choice, triangle(), need, value)
        for name in ("l", "x", "a"):
            town = triangle() | Lane("l", "a", "b") | Avenue("x", "a", "b")
            self.check_raises(NoRoad, {"name": name}, choice, town, 1, name)

    def test_no_town(self):
        told = choice(triangle(), 1, "t")
        for value in values_but(Town):
            for goal in ("a", None):
                self.check_refused([told, value], BadTown, {"part": "town"}, told.price, value, goal)
            self.check_raises(BadTown, {"part": "town"}, told.gap, value)
            self.check_raises(BadTown, {"part": "town"}, told.settles, value)

    def test_no_such_road(self):
        told = choice(triangle(), 1, "t")
        for town in (Town(), triangle() - "t", (triangle() - "t") | Lane("t", "a", "c"), triangle().opened("t")):
            for goal in ("a", "z", None):
                self.check_raises(NoRoad, {"name": "t"}, told.price, town, goal)
            self.check_raises(NoRoad, {"name": "t"}, told.gap, town)
            self.check_raises(NoRoad, {"name": "t"}, told.settles, town)
        for value in all_values():
            if not isinstance(value, str) or value not in ("r", "s", "t"):
                self.check_raises(NoRoad, {"name": value}, Choice(value, None, None).gap, triangle())

    def test_no_end(self):
        told, never = choice(triangle(), 1, "t"), choice(triangle(), 2, "t")
        for value in all_values():
            if not isinstance(value, str) or value not in ("a", "c"):
                self.check_refused([told, value], NoCorner, {"name": value}, told.price, triangle(), value)
                self.check_raises(NoCorner, {"name": value}, never.price, triangle(), value)

    def test_equal_choices(self):
        told = choice(triangle(), 1, "t")
        self.check_equal(told, Choice(other=told.other, one=told.one, name="t"))
        for other in (Choice("r", told.one, told.other), Choice("t", told.other, told.one),
                      Choice("t", told.one, None), Choice("t", None, told.other), ("t", told.one, told.other), "t"):
            self.check_unlike(told, other)


def spread(roads, need, forced):
    """The least price of roads between a and b, each way at least need of them, with one sign forced; None for none."""
    at, there = forced
    rest = [road for index, road in enumerate(roads) if index != at]
    own = roads[at].there if there else roads[at].back
    gains = sorted(road.there - road.back for road in rest)
    counts = [many for many in range(len(rest) + 1) if need <= many + there <= len(roads) - need]
    return least([own + sum(road.back for road in rest) + sum(gains[:many]) for many in counts])


class SureTest(Case):
    def check_sure(self, town, need, rows):
        """The signs that all rows of the least price have; whether there are rows."""
        if not rows:
            self.check_none(town, need)
            return False
        best = min(price for _, price in rows)
        common = set.intersection(*[set(signs.parts.items()) for signs, price in rows if price == best])
        found = self.check_stays(town, sure_signs, town, need)
        self.assertIs(Signs, type(found))
        self.assertEqual(dict(common), found.parts)
        self.check_equal(found, sure_signs(town_again(town), need))
        return True

    def check_none(self, town, need):
        with self.assertRaises(NoSigns) as caught:
            sure_signs(town, need)
        self.assertEqual([NoSigns, {}], [type(caught.exception), vars(caught.exception)])
        cause = caught.exception.__cause__
        self.assertEqual([Barred, ["weights"]], [type(cause), list(vars(cause))])
        self.assertEqual(cheapest(town, need).weights, cause.weights)
        self.assertIs(True, Looker(town, need)(Never(cause.weights)))

    def test_against_all_signs(self):
        found = {True: 0, False: 0}
        for town in small_towns():
            for need in (1, 2, 3):
                found[self.check_sure(town, need, good_prices(town, need))] += 1
        self.assertGreater(min(found.values()), 20)

    def test_equal_prices(self):
        for town in (complete(4), ring_of(5), THREE, ring_of(3) | Lane("x", "a", "b")):
            for name in town.roads:
                town = town.priced(name, there=4, back=4)
            self.check_sure(town, 1, good_prices(town, 1))

    def test_two_corners_with_up_to_fourteen_roads(self):
        draw = random.Random(30)
        for many in range(2, 15):
            digits = draw.choice([1, 9])
            roads = [Road(LETTERS[at], "a", "b", draw.randint(-digits, digits), draw.randint(-digits, digits))
                     for at in range(many)]
            for need in (1, 2, many // 2, many // 2 + 1):
                prices = {(at, there): spread(roads, need, (at, there))
                          for at, there in itertools.product(range(many), (0, 1))}
                if 2 * need > many:
                    self.check_none(Town(*roads), need)
                    continue
                best = min(price for price in prices.values() if price is not None)
                wanted = {roads[at].name: ("a", "b") if there else ("b", "a")
                          for at, there in prices if prices[at, there] == best and prices[at, 1 - there] != best}
                self.assertEqual(wanted, sure_signs(Town(*roads), need).parts)

    def test_towns_without_roads(self):
        for town in (Town(Avenue("x", "a", "b")), ring_of(4, Lane)):
            self.assertEqual(Signs.none(), sure_signs(town, 1))
        self.check_none(Town(Lane("l", "a", "b")), 1)

    def test_seven_corners(self):
        draw = random.Random(31)
        for digits in (0, 1, 12):
            town = drawn_rounds(draw, 7, 2, (Road,), digits)
            found, best = sure_signs(need=1, town=town), cheapest(town, 1)
            self.assertTrue(found <= best.signs)
            for name in town.roads:
                told = choice(town, 1, name)
                self.assertEqual(found[name] if name in found else None, told.settles(town))

    def test_orders(self):
        self.check_raises(BadTown, {"part": "town"}, sure_signs, None, None)
        self.check_raises(BadNeed, {"value": True}, sure_signs, Town(), True)
        self.check_raises(Empty, {}, sure_signs, Town(), 1)
        self.assertEqual(RING, sure_signs(triangle(), 1))


if __name__ == "__main__":
    unittest.main()
