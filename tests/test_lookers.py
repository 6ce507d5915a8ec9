"""signtown/lookers.py: a looker says of any value whether it is right, and nothing else."""

import itertools
import unittest

from signtown.best import Answer, Best, Never, cheapest
from signtown.errors import BadNeed, BadTown, Empty
from signtown.judge import Short, Sound
from signtown.lookers import Looker
from signtown.signs import Signs
from signtown.streets import Avenue, Lane, Road
from signtown.towns import Town
from signtown.wards import Ward
from signtown.ways import Ways, ways_of
from signtown.weights import Weights
from by_definition import are_clear, bound_of, counts_into, excess_of
from some_towns import all_signs, complete, ring_of, some_towns, triangle
from values import Case, all_values, values_but

RING = Signs({"r": ("a", "b"), "s": ("b", "c"), "t": ("c", "a")})
WAYS = ways_of(triangle(), RING, 1)
FIVE = Weights({("a",): 5})
SQUARE = Town(Road("e", "a", "b"), Road("f", "b", "c"), Road("g", "c", "d"), Road("h", "a", "d"))


class LookerTest(Case):
    def check_looks(self, wanted, looker, value):
        self.assertIs(wanted, self.check_stays([looker, value], looker, value))

    def test_answers_of_all_towns(self):
        for town in some_towns() + [complete(4), ring_of(7), ring_of(4, Avenue)]:
            answers = [cheapest(town, need) for need in (1, 2, 3)]
            for need, answer in itertools.product((1, 2, 3), answers):
                right = answer == answers[need - 1]
                if isinstance(answer, Never):
                    right = excess_of(answer.weights.parts, town, need) > 0
                self.check_looks(right, Looker(town, need), answer)

    def test_answers_of_another_town(self):
        answer = cheapest(triangle(), 1)
        for town in (complete(3), ring_of(3), triangle() | Lane("l", "b", "a"), Town(Lane("l", "a", "b")),
                     (triangle() - "r") | Road("z", "a", "b", 0, 5), triangle().priced("r", there=1),
                     triangle().priced("t", there=9, back=-9)):
            self.check_looks(False, Looker(town, 1), answer)
        self.check_looks(False, Looker(triangle(), 2), answer)
        self.check_looks(True, Looker(triangle(), 1), answer)
        self.check_looks(False, Looker(complete(4), 2), cheapest(Town(Lane("l", "a", "z")), 2))

    def check_best(self, wanted, cost=5, signs=RING, ways=WAYS, weights=FIVE):
        self.check_looks(wanted, Looker(triangle(), 1), Best(cost, signs, ways, weights))

    def test_other_costs(self):
        self.check_best(True)
        for cost in (0, 4, 6, -5, 10, True, False, None, "5", (5,), [5], 10 ** 59):
            self.check_best(False, cost=cost)
        free = ring_of(3)
        answer = cheapest(free, 1)
        for cost, wanted in ((0, True), (False, False), (None, False)):
            found = Looker(free, 1)(Best(cost, answer.signs, answer.ways, answer.weights))
            self.assertIs(wanted, found)
        one = free.priced("a", there=1, back=1)
        answer = cheapest(one, 1)
        for cost, wanted in ((1, True), (True, False)):
            self.check_looks(wanted, Looker(one, 1), Best(cost, answer.signs, answer.ways, answer.weights))

    def test_other_signs(self):
        for signs in all_signs(triangle()):
            self.check_best(signs == RING, signs=signs)
            self.check_best(False, cost=10, signs=~RING)
            self.check_best(False, cost=signs.price(triangle()), signs=signs, weights=Weights.none())
        for signs in (RING - "r", RING | Signs({"z": ("a", "b")}), RING.parts, None, Signs.none()):
            self.check_best(False, signs=signs)
        self.check_best(False, cost=10, signs=~RING, ways=ways_of(triangle(), ~RING, 1))
        self.check_best(False, cost=10, signs=~RING, ways=ways_of(triangle(), ~RING, 1), weights=Weights({("a",): 10}))

    def test_other_ways(self):
        for ways in (
                Ways("b", WAYS.out, WAYS.back), Ways("a", WAYS.back, WAYS.out), Ways("a", WAYS.out, None),
                Ways("a", {"b": WAYS.out["b"]}, WAYS.back), Ways("a", {**WAYS.out, "a": ()}, WAYS.back), Sound(WAYS),
                vars(WAYS), None):
            self.check_best(False, ways=ways)
        for bundle in ([("r",)], (["r"],), (("r",), ("r",)), (("s",),), ()):
            self.check_best(False, ways=Ways("a", {**WAYS.out, "b": bundle}, WAYS.back))
        self.check_best(True, ways=Ways("a", dict(reversed(WAYS.out.items())), WAYS.back))

    def test_other_weights(self):
        for parts in ({}, {("a",): 4}, {("a",): 6}, {("b",): 5}, {("c",): 5}, {("a", "b"): 5}, {("a", "c"): 5},
                      {("b", "c"): 5}, {("a",): 2, ("a", "b"): 3}, {("a",): 2, ("b",): 3}, {("a",): 5, ("b", "c"): 1}):
            self.check_best(bound_of(parts, triangle(), 1) == 5, weights=Weights(parts))
        found = [parts for parts in ({("a",): 5}, {("a",): 2, ("a", "b"): 3}) if bound_of(parts, triangle(), 1) == 5]
        self.assertEqual(2, len(found))
        for weights in ({("a",): 5}, Weights({("z",): 5}), Weights({("a",): 5, ("z",): 1}), None, Never(FIVE),
                        Weights({("a", "b", "c"): 5}), Ward("a")):
            self.check_best(False, weights=weights)

    def test_weights_that_cross(self):
        # Both bounds are the price, but a,b and b,c cross; so do they in the papers that bar.
        town = SQUARE
        for name in town.roads:
            town = town.priced(name, there=1, back=0)
        crossing, clear = Weights({("a", "b"): 1, ("b", "c"): 1}), Weights({("a", "b", "c"): 1, ("b",): 1})
        looker = Looker(town, 2)
        never = cheapest(town, 2)
        self.assertIs(True, looker(never))
        for weights in (crossing, clear, crossing * 3, clear * 7, crossing + never.weights * 9, clear + never.weights):
            wanted = weights.excess(town, 2) > 0
            self.assertIs(wanted, looker.bars(weights))
            self.check_looks(wanted and are_clear(weights.parts, town), looker, Never(weights))
        self.assertIs(True, looker.bars(crossing + never.weights * 9))
        answer = cheapest(SQUARE.priced("e", there=2, back=2), 1)
        for weights in (Weights({("a", "b"): 1}), Weights({("b", "c"): 1}), Weights.none(), crossing):
            wanted = bound_of(weights.parts, SQUARE.priced("e", there=2, back=2), 1) == 2
            self.check_looks(wanted and weights != crossing, Looker(SQUARE.priced("e", there=2, back=2), 1),
                             Best(2, answer.signs, answer.ways, weights))

    def test_crossing_weights_with_the_right_bound(self):
        # Each of the two alone, or their sum, binds just the price; the sum crosses.
        town = Town(*[Road(name, one, other, 0, 4) for name, one, other in (
            ("e", "a", "b"), ("f", "b", "c"), ("g", "c", "d"), ("h", "d", "a"))])
        answer = cheapest(town, 1)
        rows = [Weights({one: 1, other: 1}) * times for one, other in itertools.combinations(
            [ward.corners for ward in town.wards()], 2) for times in (1, 2, 3)]
        right = [weights for weights in rows if bound_of(weights.parts, town, 1) == answer.cost]
        crossing = [weights for weights in right if not are_clear(weights.parts, town)]
        self.assertEqual([True, True], [len(right) > len(crossing), len(crossing) > 0])
        for weights in right:
            told = Best(answer.cost, answer.signs, answer.ways, weights)
            self.check_looks(weights not in crossing, Looker(town, 1), told)
            self.assertIs(True, Looker(town, 1).binds(weights, answer.cost))

    def test_never(self):
        looker = Looker(triangle(), 2)
        for ward in triangle().wards():
            self.check_looks(excess_of({ward.corners: 1}, triangle(), 2) > 0, looker, Never(Weights.of(ward)))
        never = cheapest(triangle(), 2)
        for times in (1, 2, 10 ** 55):
            self.check_looks(True, looker, Never(never.weights * times))
            self.check_looks(False, Looker(triangle(), 1), Never(never.weights * times))
        others = [Weights({("z",): 1}), Weights({("a", "z"): 1}), Weights.none()]
        for weights in [*others, never.weights.parts, None, never]:
            self.check_looks(False, looker, Never(weights))

    def test_papers_of_other_classes(self):
        for value in (Sound(WAYS), Short(Ward("a")), WAYS, RING, FIVE, Answer(), (5, RING, WAYS, FIVE), triangle()):
            for need in (1, 2):
                self.check_looks(False, Looker(triangle(), need), value)

    def test_any_value(self):
        for value in all_values():
            self.check_looks(False, Looker(triangle(), 1), value)
            barring = isinstance(value, Weights) and excess_of(value.parts, triangle(), 2) > 0
            self.check_looks(barring, Looker(triangle(), 2), Never(value))
            self.check_best(value == 5, cost=value)
            self.check_best(False, signs=value)
            self.check_best(False, ways=value)
            self.check_best(False, weights=value)

    def test_by_name(self):
        looker = Looker(need=1, town=triangle())
        self.assertIs(True, looker(answer=cheapest(triangle(), 1)))
        self.assertEqual([True, True], [looker.is_sound(ways=WAYS, signs=RING), looker.binds(price=5, weights=FIVE)])
        self.assertEqual([False, False], [looker.is_short(ward=Ward("a"), signs=RING), looker.bars(weights=FIVE)])


class PartsTest(Case):
    LOOKER = Looker(triangle(), 1)

    def test_is_sound(self):
        for town in some_towns():
            for signs in all_signs(town):
                for need in range(1, min(counts_into(town, signs).values()) + 1):
                    ways = ways_of(town, signs, need)
                    self.assertIs(True, Looker(town, need).is_sound(signs, ways))
                    self.assertIs(False, Looker(town, need + 1).is_sound(signs, ways))
        for signs in all_signs(triangle()) + [RING - "r", RING | Signs({"z": ("a", "b")}), RING.parts]:
            self.assertIs(signs == RING, self.LOOKER.is_sound(signs, WAYS))
        for value in all_values():
            self.assertIs(False, self.check_stays(value, self.LOOKER.is_sound, value, WAYS))
            self.assertIs(False, self.check_stays(value, self.LOOKER.is_sound, RING, value))
            self.assertIs(False, self.check_stays(value, self.LOOKER.is_sound, value, value))

    def test_is_short(self):
        for town in some_towns():
            for signs in all_signs(town):
                for ward, number in counts_into(town, signs).items():
                    for need in (1, 2, 20):
                        self.assertIs(number < need, Looker(town, need).is_short(signs, Ward(*ward)))
        for ward in (Ward("z"), Ward("a", "z"), Ward("a", "b", "c"), ("a",), "a", ["a"]):
            self.assertIs(False, Looker(triangle(), 20).is_short(RING, ward))
        self.assertIs(False, Looker(triangle(), 20).is_short(RING - "r", Ward("a")))
        for value in all_values():
            looker = Looker(triangle(), 20)
            self.assertIs(False, self.check_stays(value, looker.is_short, value, Ward("a")))
            self.assertIs(value in (Ward("a"), Ward("b", "c")), self.check_stays(value, looker.is_short, RING, value))
            self.assertIs(False, self.check_stays(value, looker.is_short, value, value))

    def test_binds(self):
        for town in some_towns() + [SQUARE]:
            for one, other in itertools.product(list(town.wards())[:6], repeat=2):
                weights = Weights.of(one, 2) + Weights.of(other, 3)
                for need in (1, 2, 20):
                    bound = bound_of(weights.parts, town, need)
                    self.assertEqual([True, True, False], [
                        Looker(town, need).binds(weights, price) for price in (bound - 1, bound, bound + 1)])
        self.assertEqual([True, False], [self.LOOKER.binds(FIVE, -10 ** 59), self.LOOKER.binds(FIVE, 10 ** 59)])
        for value in all_values():
            wanted = isinstance(value, int) and not isinstance(value, bool) and value <= 5
            self.assertIs(wanted, self.check_stays(value, self.LOOKER.binds, FIVE, value))
            self.assertIs(value == Weights.none(), self.check_stays(value, self.LOOKER.binds, value, 0))
            self.assertIs(False, self.check_stays(value, self.LOOKER.binds, value, value))
        for parts in ({("z",): 1}, {("a",): 5, ("a", "z"): 1}, {("a", "b", "c"): 1}):
            self.assertIs(False, self.LOOKER.binds(Weights(parts), -10 ** 30))
        self.assertIs(False, self.LOOKER.binds(FIVE.parts, -10 ** 30))

    def test_bars(self):
        for town in some_towns() + [SQUARE]:
            for one, other in itertools.product(list(town.wards())[:6], repeat=2):
                weights = Weights.of(one, 2) + Weights.of(other, 3)
                for need in (1, 2, 20):
                    self.assertIs(excess_of(weights.parts, town, need) > 0, Looker(town, need).bars(weights))
        for value in all_values() + [{("a",): 1}]:
            self.assertIs(False, self.check_stays(value, self.LOOKER.bars, value))
        for parts in ({("z",): 1}, {("a",): 5, ("a", "z"): 1}, {("a", "b", "c"): 1}):
            self.assertIs(False, Looker(triangle(), 20).bars(Weights(parts)))
        self.assertIs(True, Looker(triangle(), 20).bars(FIVE))


class RefusedTest(Case):
    def test_no_town(self):
        for value in values_but(Town):
            for need in (1, 0, None):
                self.check_refused(value, BadTown, {"part": "town"}, Looker, value, need)

    def test_no_need(self):
        for value in all_values():
            if not isinstance(value, int) or isinstance(value, bool) or not 1 <= value <= 20:
                for town in (triangle(), Town()):
                    self.check_refused([town, value], BadNeed, {"value": value}, Looker, town, value)

    def test_empty(self):
        for need in (1, 20):
            self.check_raises(Empty, {}, Looker, Town(), need)


if __name__ == "__main__":
    unittest.main()
