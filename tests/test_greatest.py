"""signtown/greatest.py: the greatest need for which there are good signs, beside a look at all signs."""

import random
import unittest

from signtown.best import Best, Never, cheapest
from signtown.errors import BadTown, Empty
from signtown.greatest import Greatest, greatest, shows_greatest
from signtown.lookers import Looker
from signtown.signs import Signs
from signtown.streets import Avenue, Lane, Road
from signtown.towns import Town
from signtown.ways import ways_of
from signtown.weights import Weights
from by_definition import counts_into, price_of, settled_number, wards_of
from plain_towns import THREE
from some_towns import (
    LETTERS, all_signs, complete, drawn_rounds, drawn_town, many_streets, mixed, ring_of, some_towns, town_again,
    triangle)
from values import Case, all_values, values_but

KINDS = [(Road,), (Road, Road, Road, Lane), (Road, Road, Avenue), (Road, Road, Road, Lane, Avenue)]


def small_towns():
    draw = random.Random(34)
    towns = some_towns() + [THREE, complete(4), complete(5), ring_of(4)]
    towns += [drawn_rounds(draw, *draw.choice([(2, 4), (3, 2), (3, 3), (4, 2)]), draw.choice(KINDS)) for _ in range(30)]
    return towns + [drawn_town(draw, draw.choice([2, 3, 4]), 6, draw.choice(KINDS)) for _ in range(20)]


def greatest_number(town):
    """The greatest need of all signs of the town."""
    return max(min(counts_into(town, signs).values()) for signs in all_signs(town))


class GreatestTest(Case):
    def check_greatest(self, town, wanted):
        found = self.check_stays(town, greatest, town)
        self.assertIs(Greatest, type(found))
        self.check_same(wanted, found.number)
        if wanted == 0:
            self.assertIsNone(found.best)
        else:
            self.check_equal(cheapest(town, wanted), found.best)
            self.assertIs(Best, type(found.best))
        self.check_equal(cheapest(town, wanted + 1), found.never)
        self.assertIs(Never, type(found.never))
        self.assertIs(True, self.check_stays(found, shows_greatest, town, found))
        self.check_equal(found, greatest(town_again(town)))

    def test_against_all_signs(self):
        numbers = set()
        for town in small_towns():
            wanted = greatest_number(town)
            self.check_greatest(town, wanted)
            numbers.add(wanted)
        self.assertTrue({0, 1, 2} <= numbers)

    def test_plain_towns_have_half_the_roads_of_the_narrowest_ward(self):
        draw = random.Random(35)
        for corners, rounds in ((3, 4), (4, 3), (5, 2), (6, 2), (7, 2)):
            town = drawn_rounds(draw, corners, rounds, (Road,), 1)
            for name in ("", "a", "b"):
                town = town - name if name else town
                crossing = [len([road for road in town if len(set(road.ends) & set(ward)) == 1])
                            for ward in wards_of(town)]
                self.check_greatest(town, min(crossing) // 2)

    def test_two_corners(self):
        for many in range(1, 15):
            self.check_greatest(Town(*[Road(LETTERS[at], "a", "b", at, -at) for at in range(many)]), many // 2)
            self.check_greatest(Town(*[Avenue(LETTERS[at], "a", "b") for at in range(many)]), many)
            self.check_greatest(Town(*[Lane(LETTERS[at], *("ab", "ba")[at % 2]) for at in range(many)]), many // 2)

    def test_rings(self):
        for many in range(2, 8):
            for kind in (Road, Lane):
                self.check_greatest(ring_of(many, kind), 1)
            self.check_greatest(ring_of(many, Avenue), 2)
            self.check_greatest(ring_of(many) - "a", 0)

    def test_towns_of_lanes_and_avenues_alone(self):
        draw = random.Random(36)
        for kinds in ((Lane,), (Avenue,), (Lane, Avenue)):
            for _ in range(8):
                town = drawn_rounds(draw, draw.choice([2, 3, 4, 5]), 2, kinds)
                self.check_greatest(town, min(settled_number(town, ward) for ward in wards_of(town)))

    def test_no_need_at_all(self):
        for town in (Town(Road("r", "a", "b")), Town(Lane("l", "a", "b")), triangle() - "r",
                     mixed() | Road("z", "e", "a"), Town(*many_streets(6)) | Avenue("y", "y", "z")):
            self.check_greatest(town, 0)
            self.assertIsNone(greatest(town).best)

    def test_refused(self):
        for value in values_but(Town):
            self.check_refused(value, BadTown, {"part": "town"}, greatest, value)
            self.check_refused(value, BadTown, {"part": "town"}, shows_greatest, value, None)
        for value in (None, Greatest(0, None, Never(Weights({("a",): 1})))):
            self.check_raises(Empty, {}, shows_greatest, Town(), value)
        self.check_raises(Empty, {}, greatest, Town())
        self.assertEqual(1, greatest(town=triangle()).number)


class ShownTest(Case):
    def test_other_signs_and_weights_that_are_as_right(self):
        many = 0
        for town in (triangle(), complete(4), THREE, mixed() - "u" - "n", ring_of(4)):
            for name in town.roads:
                town = town.priced(name, there=2, back=2)
            found = greatest(town)
            number = found.number
            for signs in all_signs(town):
                if number and min(counts_into(town, signs).values()) >= number:
                    best = Best(price_of(town, signs), signs, ways_of(town, signs, number), found.best.weights)
                    never = Never(found.never.weights * 3)
                    self.assertIs(True, shows_greatest(town, Greatest(number, best, never)))
                    self.assertIs(True, shows_greatest(town_again(town), Greatest(number, best, found.never)))
                    many += 1
        self.assertGreater(many, 20)

    def test_other_numbers(self):
        for town in small_towns()[:20]:
            found = greatest(town)
            for number in (found.number + 1, found.number - 1, -1, 19, 20, 21, 10 ** 59, str(found.number), None,
                           bool(found.number), (found.number,)):
                self.assertIs(False, shows_greatest(town, Greatest(number, found.best, found.never)))

    def test_true_is_not_1(self):
        found = greatest(triangle())
        self.assertEqual(1, found.number)
        self.assertIs(False, shows_greatest(triangle(), Greatest(True, found.best, found.never)))
        found = greatest(Town(Lane("l", "a", "b")))
        self.assertIs(False, shows_greatest(Town(Lane("l", "a", "b")), Greatest(False, None, found.never)))

    def test_other_papers(self):
        for town in small_towns()[:20]:
            found = greatest(town)
            number, best, never = found.number, found.best, found.never
            others = [Greatest(number, never, best), Greatest(number, never, never), Greatest(number, best, best),
                      Greatest(number, best, None), Greatest(number, best, cheapest(town, 1) if number else None),
                      Greatest(number, best, Never(Weights.none())), Greatest(number, best, Never(None)),
                      Greatest(number, best, Best(0, Signs.none(), None, Weights.none())),
                      Greatest(number, best, never.weights), (number, best, never), [number, best, never]]
            if number:
                others += [Greatest(number, None, never), Greatest(number, Best(best.cost + 1, best.signs, best.ways,
                                                                                best.weights), never),
                           Greatest(number, Best(best.cost, best.signs, None, best.weights), never),
                           Greatest(number, Best(best.cost, best.signs, best.ways, None), never),
                           Greatest(number, best.signs, never), Greatest(0, None, never), Greatest(0, best, never)]
            else:
                others += [Greatest(0, never, never), Greatest(0, False, never), Greatest(0, (), never),
                           Greatest(1, None, cheapest(town, 2)), Greatest(1, None, never)]
            for value in others:
                self.assertIs(False, self.check_stays([value], shows_greatest, town, value))

    def test_papers_of_another_need(self):
        town = Town(*[Road(name, "a", "b", 1, 0) for name in LETTERS[:6]])
        found = greatest(town)
        self.assertEqual(3, found.number)
        for need in (1, 2):
            self.assertIs(False, shows_greatest(town, Greatest(3, cheapest(town, need), found.never)))
            self.assertIs(False, shows_greatest(town, Greatest(need, cheapest(town, need), found.never)))
            self.assertIs(False, shows_greatest(town, Greatest(need, cheapest(town, need), cheapest(town, need + 1))))
        far = cheapest(town, 5)
        self.assertIs(Looker(town, 4)(far), shows_greatest(town, Greatest(3, found.best, far)))
        self.assertIs(False, shows_greatest(town, Greatest(4, cheapest(town, 4), cheapest(town, 5))))

    def test_papers_of_another_town(self):
        town, other = triangle(), complete(4)
        self.assertIs(False, shows_greatest(other, greatest(town)))
        self.assertIs(False, shows_greatest(town, greatest(other)))
        self.assertIs(False, shows_greatest(town | Avenue("x", "a", "d"), greatest(town)))

    def test_values_of_all_kinds(self):
        found = greatest(triangle())
        for value in all_values():
            self.assertIs(False, self.check_stays([value], shows_greatest, triangle(), value))
            for told in (Greatest(value, found.best, found.never), Greatest(1, value, found.never),
                         Greatest(1, found.best, value), Greatest(value, value, value), Greatest(0, None, value)):
                wanted = told == found
                self.assertIs(wanted, shows_greatest(triangle(), told))

    def test_equal_ones(self):
        found = greatest(triangle())
        self.check_equal(found, Greatest(never=found.never, best=found.best, number=1))
        for other in (Greatest(True, found.best, found.never), Greatest(1, found.never, found.best),
                      Greatest(1, None, found.never), (1, found.best, found.never), None):
            self.check_unlike(found, other)


if __name__ == "__main__":
    unittest.main()
