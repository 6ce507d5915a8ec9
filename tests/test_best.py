"""signtown/best.py: good signs of the least price, beside a look at all signs, and the papers that show them."""

import itertools
import random
import unittest

from signtown.best import Answer, Best, Never, cheapest
from signtown.errors import BadNeed, BadTown, Empty
from signtown.lookers import Looker
from signtown.signs import Signs
from signtown.streets import Avenue, Lane, Road
from signtown.towns import Town
from signtown.ways import Ways
from signtown.weights import Weights
from by_definition import (
    are_clear, are_ways, bound_of, excess_of, good_by_shutting, least_prices, price_of, settled_number, wards_of)
from some_towns import (
    LETTERS, all_signs, complete, drawn_rounds, drawn_town, many_streets, mixed, ring_of, some_towns, town_again,
    triangle)
from values import Case

# Each ward has enough streets, and so have each ward and the rest, and yet no signs are good for the need 2.
BARRED = Town(Lane("e", "c", "b"), Lane("f", "c", "a"), Road("g", "b", "c"), Lane("h", "c", "a"), Lane("i", "c", "b"),
              Road("j", "a", "c"), Road("k", "a", "b"))


class AnswerCase(Case):
    def check_parts(self, town, parts):
        """Weights on wards of the town that are clear, with at most 50 digits each."""
        self.assertTrue(set(parts) <= set(wards_of(town)))
        self.assertTrue(are_clear(parts, town))
        for number in parts.values():
            self.assertIs(int, type(number))
            self.assertTrue(1 <= number < 10 ** 50)

    def check_papers(self, town, need, answer):
        """What the papers show is so, by the definitions."""
        self.assertIsInstance(answer, Answer)
        self.assertIs(Weights, type(answer.weights))
        parts = answer.weights.parts
        self.check_parts(town, parts)
        if type(answer) is Never:
            self.assertIs(False, bool(answer))
            self.assertGreater(excess_of(parts, town, need), 0)
            return
        self.assertEqual([Best, True, Signs, Ways], [type(answer), bool(answer), type(answer.signs), type(answer.ways)])
        self.assertIs(True, answer.signs.fits(town))
        self.assertTrue(are_ways(town, answer.signs, need, answer.ways))
        self.check_same(answer.cost, price_of(town, answer.signs))
        self.assertEqual(answer.cost, bound_of(parts, town, need))

    def check_cheapest(self, town, need):
        """The papers of the answer, which comes again for an equal town."""
        answer = self.check_stays(town, cheapest, town, need)
        self.check_papers(town, need, answer)
        self.check_equal(answer, cheapest(town, need))
        self.check_equal(answer, cheapest(town_again(town), need))
        self.assertIs(True, Looker(town, need)(answer))
        return answer

    def check_against_all_signs(self, town, needs):
        """The least prices for these needs, as a look at all signs finds them."""
        wanted = least_prices(town)
        for need in needs:
            answer = self.check_cheapest(town, need)
            self.assertEqual(wanted.get(need), answer.cost if answer else None)
        return len([need for need in needs if need in wanted])


class SmallTownsTest(AnswerCase):
    def test_drawn_towns_of_up_to_four_corners(self):
        draw = random.Random(12)
        good = 0
        for at in range(240):
            corners = draw.choice([2, 3, 3, 4])
            kinds = draw.choice([(Road,), (Road, Lane), (Road, Avenue), (Road, Road, Lane, Avenue)])
            town = drawn_town(draw, corners, draw.randint(corners, 6) if at % 2 else 6, kinds, draw.choice([0, 1, 3]))
            good += self.check_against_all_signs(town, (1, 2, 3))
        self.assertGreater(good, 100)

    def test_drawn_rounds(self):
        draw = random.Random(13)
        good = 0
        for _ in range(100):
            corners, rounds = draw.choice([(2, 3), (3, 2), (3, 3), (4, 2)])
            kinds = draw.choice([(Road,), (Road, Road, Road, Lane), (Road, Road, Avenue), (Road, Road, Lane, Avenue)])
            town = drawn_rounds(draw, corners, rounds, kinds, draw.choice([0, 1, 12]))
            good += self.check_against_all_signs(town, (1, 2, 3))
        self.assertGreater(good, 100)

    def test_some_towns(self):
        for town in some_towns() + [mixed() | Avenue("z", "a", "d") | Road("v", "a", "d", -5, 5)]:
            self.check_against_all_signs(town, (1, 2, 3))

    def test_equal_prices(self):
        for prices in ((0, 0), (4, 4), (-3, -3)):
            for town in (complete(3), complete(4), ring_of(4), ring_of(3, Avenue) | Road("x", "a", "b")):
                for name in town.roads:
                    town = town.priced(name, there=prices[0], back=prices[1])
                self.check_against_all_signs(town, (1, 2))

    def test_good_as_shutting_streets_shows(self):
        for town in (triangle(), complete(4), triangle() | Avenue("x", "a", "b"), mixed() - "w" - "s"):
            for need in (1, 2):
                wanted = any(good_by_shutting(town, signs, need) for signs in all_signs(town))
                self.assertIs(wanted, bool(cheapest(town, need)))


class SpecialTownsTest(AnswerCase):
    def test_two_corners(self):
        draw = random.Random(14)
        for many in range(1, 15):
            roads = [Road(LETTERS[at], "a", "b", draw.randint(-99, 99), draw.randint(-99, 99)) for at in range(many)]
            town = Town(*roads)
            gains = sorted(road.there - road.back for road in roads)
            for need in (1, 2, 3, 7, 8, 15, 20):
                answer = self.check_cheapest(town, need)
                prices = [sum(gains[:there]) for there in range(need, many - need + 1)]
                wanted = sum(road.back for road in roads) + min(prices) if prices else None
                self.assertEqual(wanted, answer.cost if answer else None)

    def test_rings(self):
        for many in range(2, 8):
            town = ring_of(many).priced("a", there=3, back=-4)
            answer = self.check_cheapest(town, 1)
            self.assertEqual(-4, answer.cost)
            self.assertEqual("a", answer.signs["a"])
            for need in (2, 20):
                self.assertIs(Never, type(self.check_cheapest(town, need)))
            self.assertEqual(0, self.check_cheapest(ring_of(many), 1).cost)

    def test_complete_towns(self):
        for corners in (3, 4, 5):
            self.check_against_all_signs(complete(corners), (1, 2, 3))

    def test_half_of_all_prices_is_enough_for_roads_alone(self):
        for town in (complete(4), complete(5), Town(*[Road(name, "a", "b", 7, -1) for name in "defg"])):
            answer = cheapest(town, 2 if len(town) != 6 else 1)
            self.assertLessEqual(2 * answer.cost, sum(road.there + road.back for road in town))

    def test_rings_of_lanes(self):
        for many in range(2, 8):
            answer = self.check_cheapest(ring_of(many, Lane), 1)
            self.assertEqual([0, Signs.none(), Weights.none()], [answer.cost, answer.signs, answer.weights])
            self.assertIs(Never, type(self.check_cheapest(ring_of(many, Lane), 2)))
            self.assertIs(Never, type(self.check_cheapest(ring_of(many, Lane) - "a", 1)))

    def test_no_roads_at_all(self):
        for town, most in ((Town(Avenue("x", "a", "b")), 1), (ring_of(5, Avenue), 2), (Town(Lane("l", "a", "b")), 0),
                           (Town(*[Avenue(name, "a", "b") for name in LETTERS[:14]]), 14),
                           (Town(Avenue("x", "a", "b"), Avenue("y", "c", "d")), 0)):
            for need in (1, 2, 3, 14, 15, 20):
                answer = self.check_cheapest(town, need)
                self.assertIs(need <= most, bool(answer))
                self.assertEqual(0, answer.cost if answer else 0)

    def test_enough_streets_for_each_ward_and_yet_no_good_signs(self):
        for ward in wards_of(BARRED):
            rest = [corner for corner in BARRED.corners if corner not in ward]
            between = [name for name in BARRED.roads if (BARRED[name].one in ward) != (BARRED[name].other in ward)]
            lanes = [settled_number(BARRED, part) for part in (ward, rest)]
            self.assertGreaterEqual(lanes[0] + len(between), 2)
            self.assertGreaterEqual(lanes[0] + lanes[1] + len(between), 4)
        self.assertEqual({}, {need: price for need, price in least_prices(BARRED).items() if need > 1})
        self.assertIs(Never, type(self.check_cheapest(BARRED, 2)))
        self.assertIs(Best, type(self.check_cheapest(BARRED, 1)))

    def test_needs_above_the_number_of_streets(self):
        for town in some_towns() + [Town(*many_streets(14))]:
            for need in range(len(town) + 1, 21):
                self.assertIs(Never, type(self.check_cheapest(town, need)))


class LargeTownsTest(AnswerCase):
    def test_seven_corners_and_fourteen_streets(self):
        draw = random.Random(15)
        found = {True: 0, False: 0}
        for at in range(30):
            kinds = draw.choice([(Road,), (Road,) * 5 + (Lane,), (Road, Road, Avenue), (Road,) * 4 + (Lane, Avenue)])
            town = drawn_rounds(draw, 7, 2, kinds, 12) if at % 4 else drawn_town(draw, 7, 14, kinds, 12)
            self.assertEqual([7, 14], [len(town.corners), len(town)])
            for need in (1, 2, 3, 4):
                found[bool(self.check_cheapest(town, need))] += 1
        self.assertGreater(min(found.values()), 20)

    def test_five_and_six_corners(self):
        draw = random.Random(16)
        for _ in range(6):
            self.check_against_all_signs(drawn_rounds(draw, 5, 2, (Road,), draw.choice([0, 1, 12])), (1, 2))
            self.check_against_all_signs(drawn_rounds(draw, 6, 2, (Road, Road, Lane, Avenue), 12), (1, 2))

    def test_greatest_prices(self):
        for there, back in itertools.product([10 ** 12 - 1, 1 - 10 ** 12], repeat=2):
            pairs = itertools.combinations("abcde", 2)
            town = Town(*[Road(name, *pair, there, back) for name, pair in zip(LETTERS, pairs)])
            self.assertEqual(least_prices(town)[2], self.check_cheapest(town, 2).cost)


class RefusedTest(Case):
    def test_orders(self):
        self.check_raises(BadTown, {"part": "town"}, cheapest, None, 0)
        self.check_raises(BadNeed, {"value": 0}, cheapest, Town(), 0)
        self.check_raises(Empty, {}, cheapest, Town(), 20)
        self.assertEqual(5, cheapest(need=1, town=triangle()).cost)


if __name__ == "__main__":
    unittest.main()
