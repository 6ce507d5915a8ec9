"""signtown/nearest.py: the fewest signs that must be turned, beside a look at all good signs."""

import itertools
import random
import unittest

from signtown.best import Best, Never, cheapest
from signtown.errors import BadNeed, BadSigns, BadTown, Empty, NoRoad, Unlike
from signtown.lookers import Looker
from signtown.nearest import kept, nearest
from signtown.signs import Signs
from signtown.streets import Avenue, Lane, Road
from signtown.towns import Town
from by_definition import counts_into
from plain_towns import RING
from some_towns import (
    all_signs, complete, drawn_rounds, drawn_town, mixed, ring_of, signs_again, some_towns, texts, town_again, triangle)
from values import Case, all_values, values_but

KINDS = [(Road,), (Road, Road, Road, Lane), (Road, Road, Avenue), (Road, Road, Road, Lane, Avenue)]


def some_signs(draw, town):
    """Signs for all, some and none of the roads of the town."""
    fitting = draw.choice(all_signs(town))
    part = {name: pair for name, pair in fitting.parts.items() if draw.random() < 0.5}
    return [fitting, Signs(part), Signs.none()]


class KeptTest(Case):
    def test_the_price_of_each_sign(self):
        draw = random.Random(32)
        for town in some_towns() + [complete(4)]:
            for signs in some_signs(draw, town):
                found = self.check_stays([town, signs], kept, town, signs)
                self.assertEqual([town.names, town.corners], [found.names, found.corners])
                for street, other in zip(town, found):
                    if not isinstance(street, Road):
                        self.assertEqual(street, other)
                        continue
                    self.assertEqual([Road, street.ends], [type(other), other.ends])
                    for goal in street.ends:
                        turned = street.name in signs and signs[street.name] != goal
                        self.check_same(1 if turned else 0, other.price(goal))

    def test_the_price_is_how_many_signs_are_turned(self):
        for town in (triangle(), complete(4), mixed()):
            for signs, other in itertools.product(all_signs(town)[:16], repeat=2):
                turned = len([name for name in town.roads if signs[name] != other[name]])
                self.assertEqual(turned, other.price(kept(town, signs)))

    def test_plain_cases(self):
        town = triangle() | Lane("l", "a", "b") | Avenue("x", "a", "b")
        self.assertEqual(["lane l a b", "road r a b 0 1", "road s b c 0 0", "road t a c 1 0", "avenue x a b"],
                         texts(kept(town, RING - "s")))
        self.assertEqual(kept(town, RING), kept(signs=signs_again(RING), town=town_again(town)))
        self.assertEqual(Town(), kept(Town(), Signs.none()))


class NearestTest(Case):
    def check_nearest(self, town, need, signs, rows):
        """The least number of turned signs among all good signs; whether there are any."""
        found = self.check_stays([town, signs], nearest, town, need, signs)
        right = [other for least, other in rows if least >= need]
        self.check_equal(cheapest(kept(town, signs), need), found)
        self.assertIs(True, Looker(kept(town, signs), need)(found))
        if not right:
            self.assertIs(Never, type(found))
            return False
        turned = [len([name for name in signs if other[name] != signs[name]]) for other in right]
        self.assertIs(Best, type(found))
        self.check_same(min(turned), found.cost)
        self.assertEqual(found.cost, len([name for name in signs if found.signs[name] != signs[name]]))
        self.check_equal(found, nearest(town_again(town), need, signs_again(signs)))
        return True

    def test_against_all_good_signs(self):
        draw = random.Random(33)
        towns = some_towns() + [complete(4)]
        towns += [drawn_rounds(draw, *draw.choice([(2, 3), (3, 2), (4, 2)]), draw.choice(KINDS)) for _ in range(20)]
        towns += [drawn_town(draw, draw.choice([2, 3, 4]), 6, draw.choice(KINDS)) for _ in range(20)]
        found = {True: 0, False: 0}
        for town in towns:
            rows = [(min(counts_into(town, other).values()), other) for other in all_signs(town)]
            for need, signs in itertools.product((1, 2), some_signs(draw, town)):
                found[self.check_nearest(town, need, signs, rows)] += 1
        self.assertGreater(min(found.values()), 50)

    def test_rings(self):
        for many in range(3, 8):
            town = ring_of(many)
            around = next(signs for signs in all_signs(town) if min(counts_into(town, signs).values()) == 1)
            for turned in range(many + 1):
                answer = nearest(town, 1, around.turned(*town.names[:turned]))
                self.assertEqual(min(turned, many - turned), answer.cost)
                self.assertIn(answer.signs, (around, ~around))
            self.assertIs(Never, type(nearest(town, 2, around)))

    def test_good_signs_are_nearest_to_themselves(self):
        for town in (triangle(), complete(4), complete(5)):
            right = [signs for signs in all_signs(town) if min(counts_into(town, signs).values()) >= 1]
            for signs in right[:20]:
                answer = nearest(signs=signs, need=1, town=town)
                self.assertEqual([0, signs], [answer.cost, answer.signs])

    def test_prices_of_the_town_play_no_part(self):
        cheap = triangle().priced("r", there=10 ** 12 - 1, back=-5)
        self.assertEqual(nearest(triangle(), 1, RING.turned("r")), nearest(cheap, 1, RING.turned("r")))


class RefusedTest(Case):
    def check_both(self, error, fields, town, signs, needs=(1, 2, 20)):
        self.check_refused([town, signs], error, fields, kept, town, signs)
        for need in needs:
            self.check_refused([town, signs], error, fields, nearest, town, need, signs)
        if isinstance(town, Town):
            for need in (0, 21, True, None, "1"):
                self.check_raises(BadNeed, {"value": need}, nearest, town, need, signs)

    def test_no_town(self):
        for value in values_but(Town):
            for signs in (RING, None):
                self.check_both(BadTown, {"part": "town"}, value, signs, (1, 0, None))

    def test_no_signs(self):
        for value in values_but(Signs):
            for town in (triangle(), Town()):
                self.check_both(BadSigns, {"part": "signs"}, town, value, (1, 2))

    def test_names_that_are_no_roads(self):
        more = RING | Signs({"m": ("a", "b"), "z": ("a", "b")})
        self.check_both(NoRoad, {"name": "m"}, triangle(), more)
        self.check_both(NoRoad, {"name": "m"}, triangle(), more.turned("r", "z"))
        self.check_both(NoRoad, {"name": "z"}, triangle(), more - "m")
        self.check_both(NoRoad, {"name": "r"}, Town(), RING)
        self.check_both(NoRoad, {"name": "r"}, triangle().opened("r", "t"), RING)
        self.check_both(NoRoad, {"name": "s"}, triangle().shut("s") | Lane("s", "b", "c"), RING)

    def test_other_ends(self):
        parts = RING.parts
        self.check_both(Unlike, {"part": "s"}, triangle(), Signs({**parts, "t": ("c", "b"), "s": ("b", "a")}))
        self.check_both(Unlike, {"part": "t"}, triangle(), Signs({**parts, "t": ("c", "z")}))
        self.check_both(NoRoad, {"name": "z"}, triangle(), Signs({**parts, "r": ("c", "z"), "z": ("a", "b")}))

    def test_needs(self):
        for value in all_values():
            if not isinstance(value, int) or isinstance(value, bool) or not 1 <= value <= 20:
                self.check_refused([value], BadNeed, {"value": value}, nearest, triangle(), value, RING)

    def test_towns_without_streets(self):
        self.check_raises(Empty, {}, nearest, Town(), 1, Signs.none())
        self.check_raises(Empty, {}, nearest, Town(), 20, Signs.none())


if __name__ == "__main__":
    unittest.main()
