"""signtown/weights.py: weights that are made, asked and put together."""

import itertools
import operator
import unittest

from signtown.errors import BadName, BadWard, BadWeights
from signtown.wards import Ward
from signtown.weights import Weights
from values import Case, all_values, no_names, values_but

PARTS = {("b", "c"): 7, ("a",): 5, ("a", "b", "c"): 1, ("c",): 2, ("a", "c"): 10 ** 59}
ALL = [tuple("abcdefg"[:many]) for many in range(1, 8)]
ADDS = (operator.add, operator.iadd)
TIMES = (operator.mul, operator.imul, lambda one, number: number * one)


class MadeTest(Case):
    def test_one_to_seven_corners(self):
        for keys in [ALL] + [[key] for key in ALL]:
            parts = {key: 1 + at for at, key in enumerate(keys)}
            self.assertEqual(parts, self.check_stays(parts, Weights, parts).parts)
        self.assertEqual({}, Weights({}).parts)
        self.assertEqual({("aaa", "b"): 3}, Weights(parts={("aaa", "b"): 3}).parts)
        self.assertEqual({("abcdefgh",): 10 ** 60 - 1}, Weights({("abcdefgh",): 10 ** 60 - 1}).parts)

    def check_bad(self, parts):
        self.check_refused(parts, BadWeights, {"part": "parts"}, Weights, parts)

    def test_values_that_are_no_dicts(self):
        for value in values_but(dict) + [list(PARTS.items()), tuple(PARTS.items()), (("a",), 1)]:
            self.check_bad(value)

    def test_any_dict(self):
        for value in all_values():
            if isinstance(value, dict) and value != {}:
                self.check_bad(value)
            self.check_bad({("a",): 1, ("b", "a"): value})

    def test_keys_that_are_no_tuples(self):
        for key in ("a", "a,b", 1, None, True, b"a"):
            self.check_bad({key: 1})
            self.check_bad({("a",): 1, key: 1})

    def test_tuples_that_are_wrong(self):
        for key in ((), ("b", "a"), ("a", "a"), ("a", "b", "b"), ("a", "c", "b"), tuple("abcdefgh"), ("b", "ab"),
                    ("a", ("b",)), (("a",),), (("a", "b"), "c"), tuple("gfedcba"), tuple("aabcdefg")):
            self.check_bad({key: 1})
            self.check_bad({("a",): 1, key: 1})
            self.check_bad({key: 1, ("a",): 1})

    def test_corners_that_are_no_names(self):
        for value in no_names():
            if isinstance(value, (type(None), bool, int, str)):
                self.check_bad({(value,): 1})
                self.check_bad({("a", value): 1})
                self.check_bad({("a", "b"): 1, (value, "z"): 1})

    def test_weights_that_are_wrong(self):
        for number in (0, -1, -5, 1 - 10 ** 60, True, False, None, "1", "a", (1,), [1], {}, {1: 1}, Ward("a")):
            self.check_bad({("a",): number})
            self.check_bad({("a",): 1, ("b",): number})
        for value in all_values():
            if not isinstance(value, int) or isinstance(value, bool) or value < 1:
                self.check_bad({("a",): value})


class AskedTest(Case):
    def test_the_order_of_the_wards(self):
        for keys in itertools.permutations(PARTS):
            weights = Weights({key: PARTS[key] for key in keys})
            self.assertEqual(["a", "c", "a,c", "b,c", "a,b,c"], [str(ward) for ward in weights])
            self.assertEqual([Ward] * 5, [type(ward) for ward in weights])
            self.assertEqual(5, len(weights))
            self.check_equal(weights, Weights(PARTS))
        names = [("aa",), ("ab",), ("b",), ("a", "z"), ("aa", "b"), ("b", "c"), ("a", "b", "c")]
        weights = Weights({key: 1 for key in names[::-1]})
        self.assertEqual([",".join(key) for key in names], [str(ward) for ward in weights])
        self.assertEqual([], list(Weights.none()))
        self.assertEqual([1, 1], [len(list(Weights({("a",): 1}))), len(list(Weights({("a",): 1})))])

    def test_weight_of_a_ward(self):
        weights = Weights(PARTS)
        for key, number in PARTS.items():
            self.check_same(number, weights[Ward(*key)])
            self.assertIs(True, Ward(*key) in weights)
        for key in (("b",), ("a", "b"), ("z",), ("a", "b", "c", "d")):
            self.check_same(0, weights[Ward(*key)])
            self.assertIs(False, Ward(*key) in weights)

    def test_no_ward(self):
        for value in values_but(Ward) + list(PARTS):
            for weights in (Weights(PARTS), Weights.none()):
                self.check_refused([weights, value], BadWard, {"part": "ward"}, operator.getitem, weights, value)
                self.assertIs(False, value in weights)
        for value in all_values():
            self.assertIs(value == Ward("a"), value in Weights({("a",): 1}))

    def test_parts_is_a_new_dict_each_time(self):
        weights = Weights(PARTS)
        found = weights.parts
        found[("a",)] = 77
        found["x"] = None
        self.assertEqual(PARTS, weights.parts)
        self.assertIsNot(weights.parts, weights.parts)
        self.assertEqual(5, weights[Ward("a")])

    def test_the_dict_that_was_passed_is_changed(self):
        parts = dict(PARTS)
        weights = Weights(parts)
        parts[("a",)] = 0
        del parts[("c",)]
        parts["x"] = 1
        self.assertEqual([PARTS, 5], [weights.parts, len(weights)])

    def test_truth(self):
        self.assertEqual([True, False, False], [bool(Weights(PARTS)), bool(Weights({})), bool(Weights.none())])
        for weights in (Weights(PARTS), Weights.none()):
            self.assertIs(len(weights) > 0, bool(weights))

    def test_equal_parts(self):
        self.check_equal(Weights({}), Weights.none())
        for parts in ({**PARTS, ("a",): 6}, {**PARTS, ("b",): 1}, {("a",): 5}, {}):
            self.check_unlike(Weights(PARTS), Weights(parts))
        for value in all_values() + [PARTS]:
            self.check_unlike(Weights(PARTS), value)

    def test_sum_at_a_corner(self):
        weights = Weights(PARTS)
        wanted = {"a": 6 + 10 ** 59, "b": 8, "c": 10 + 10 ** 59, "z": 0}
        self.assertEqual(wanted, {corner: weights(corner) for corner in wanted})
        self.check_same(0, Weights.none()("a"))
        self.assertEqual(8, weights(corner="b"))
        for value in no_names():
            self.check_raises(BadName, {"value": value}, weights, value)
            self.check_raises(BadName, {"value": value}, Weights.none(), value)

    def test_sum_onto_a_sign(self):
        weights = Weights(PARTS)
        for start, goal in itertools.product("abcz", repeat=2):
            wanted = sum(number for key, number in PARTS.items() if goal in key and start not in key)
            self.check_same(wanted, weights.onto(start, goal))
        self.assertEqual([7, 5 + 10 ** 59, 0], [weights.onto("a", "b"), weights.onto("b", "a"), weights.onto("a", "a")])
        self.assertEqual(weights.onto("a", "c"), weights.onto(goal="c", start="a"))

    def test_sum_onto_no_names(self):
        for value in no_names():
            for other in ("a", "", 1, value):
                self.check_raises(BadName, {"value": value}, Weights(PARTS).onto, value, other)
            self.check_raises(BadName, {"value": value}, Weights(PARTS).onto, "a", value)


class JoinedTest(Case):
    def test_sums(self):
        rows = [{}, PARTS, {("a",): 1}, {("b",): 3}, {("a",): 10 ** 59, ("b", "c"): 1, ("d", "e"): 4}]
        for one, other in itertools.product(rows, repeat=2):
            wanted = {key: one.get(key, 0) + other.get(key, 0) for key in [*one, *other]}
            for call in ADDS:
                weights, more = Weights(one), Weights(other)
                found = self.check_stays([weights, more], call, weights, more)
                self.assertEqual([Weights, wanted], [type(found), found.parts])
                self.assertEqual(found, call(more, weights))

    def test_no_weights(self):
        for value in values_but(Weights) + [PARTS]:
            for call in ADDS:
                for weights in (Weights(PARTS), Weights.none()):
                    self.check_refused([weights, value], BadWeights, {"part": "weights"}, call, weights, value)

    def test_times(self):
        for number in (1, 2, 7, 10 ** 59):
            for call in TIMES:
                weights = Weights(PARTS)
                found = self.check_stays(weights, call, weights, number)
                wanted = {key: part * number for key, part in PARTS.items()}
                self.assertEqual([Weights, wanted], [type(found), found.parts])
                self.assertEqual(Weights.none(), call(Weights.none(), number))

    def test_in_place_the_name_is_bound_to_the_result(self):
        weights = kept = Weights({("a",): 5})
        weights += Weights({("b",): 1})
        self.assertEqual([{("a",): 5, ("b",): 1}, {("a",): 5}], [weights.parts, kept.parts])
        more = weights
        weights *= 3
        self.assertEqual([{("a",): 15, ("b",): 3}, {("a",): 5, ("b",): 1}], [weights.parts, more.parts])

    def test_none(self):
        self.assertEqual([Weights, {}, 0], [type(Weights.none()), Weights.none().parts, len(Weights.none())])

    def test_of(self):
        for corners in ALL:
            self.assertEqual({corners: 1}, Weights.of(Ward(*corners)).parts)
            self.assertEqual({corners: 10 ** 59}, Weights.of(Ward(*corners), 10 ** 59).parts)
        self.assertEqual({("a", "b"): 4}, Weights.of(number=4, ward=Ward("b", "a")).parts)

    def test_of_refused(self):
        for value in values_but(Ward) + [("a",)]:
            for more in ((), (1,), (0,), (None,)):
                self.check_refused(value, BadWard, {"part": "ward"}, Weights.of, value, *more)
        for value in all_values():
            if not isinstance(value, int) or isinstance(value, bool) or value < 1:
                self.check_refused(value, BadWeights, {"part": "parts"}, Weights.of, Ward("a"), value)


if __name__ == "__main__":
    unittest.main()
