"""signtown/leads.py: how many streets lead into wards and to corners, beside a count by the definitions."""

import itertools
import unittest

from signtown.errors import BadSigns, BadTown, BadWard
from signtown.leads import in_counts, into, into_by_counts, settled_into, within
from signtown.signs import Signs
from signtown.streets import Avenue, Lane, Road
from signtown.towns import Town
from signtown.wards import Ward
from by_definition import leading_into
from some_towns import all_signs, mixed, some_towns, triangle
from values import Case, values_but

RING = Signs({"r": ("a", "b"), "s": ("b", "c"), "t": ("c", "a")})
# Each fails to be a ward of the triangle: one corner or all are none of it, or they are all its corners.
NO_WARDS_OF_THE_TRIANGLE = [Ward("z"), Ward("a", "z"), Ward("x", "y", "z"), Ward("a", "b", "c"), Ward("r")]
NO_SIGNS_OF_THE_TRIANGLE = [
    Signs.none(), RING - "r", RING | Signs({"u": ("a", "b")}), (RING - "r") | Signs({"r": ("a", "c")}),
    (RING - "r") | Signs({"u": ("a", "b")}),
]


class CountedTest(Case):
    def test_into(self):
        for town in some_towns():
            for signs, ward in itertools.product(all_signs(town), list(town.wards())):
                found = self.check_stays([town, signs, ward], into, town, signs, ward)
                self.check_same(len(leading_into(town, signs, ward.corners)), found)
        self.assertEqual(1, into(ward=Ward("b"), signs=RING, town=triangle()))

    def test_settled_into(self):
        for town in some_towns():
            for ward in town.wards():
                found = self.check_stays([town, ward], settled_into, town, ward)
                self.check_same(len(leading_into(town, None, ward.corners)), found)
        self.assertEqual(2, settled_into(ward=Ward("b"), town=triangle() | Lane("l", "a", "b") | Avenue("x", "b", "c")))

    def test_within(self):
        for town in some_towns():
            for ward in town.wards():
                wanted = [street for street in town if isinstance(street, Road) and set(street.ends) <= set(ward)]
                self.check_same(len(wanted), self.check_stays([town, ward], within, town, ward))
        self.assertEqual(1, within(ward=Ward("a", "c"), town=triangle()))

    def test_in_counts(self):
        for town in some_towns():
            for signs in all_signs(town):
                found = self.check_stays([town, signs], in_counts, town, signs)
                goals = [goal for _, goal in signs.parts.values()]
                self.assertEqual({corner: goals.count(corner) for corner in town.corners}, found)
                self.assertEqual([int] * len(town.corners), [type(number) for number in found.values()])
        self.assertEqual({}, in_counts(signs=Signs.none(), town=Town()))

    def test_in_counts_is_a_new_dict_each_time(self):
        town = triangle()
        found = in_counts(town, RING)
        found["a"] = 7
        del found["b"]
        self.assertEqual({"a": 1, "b": 1, "c": 1}, in_counts(town, RING))

    def test_into_by_counts(self):
        for town in some_towns():
            for signs, ward in itertools.product(all_signs(town), list(town.wards())):
                counts = in_counts(town, signs)
                found = self.check_stays([town, counts, ward], into_by_counts, town, counts, ward)
                self.check_same(into(town, signs, ward), found)

    def test_into_by_counts_of_any_integers(self):
        town = triangle() | Lane("l", "a", "b") | Avenue("x", "a", "b")
        counts = {"a": 10 ** 30, "b": -7, "c": 2}
        wanted = {"a": 10 ** 30 + 1, "b": -5, "c": 2, "a,b": 10 ** 30 - 8, "a,c": 10 ** 30 + 2, "b,c": -4}
        found = {str(ward): into_by_counts(town, counts, ward) for ward in town.wards()}
        self.assertEqual(wanted, found)
        self.assertEqual(2, into_by_counts(ward=Ward("c"), counts=counts, town=town))

    def test_plain_cases(self):
        town = Town(
            Road("r", "a", "b"), Road("s", "b", "a"), Road("t", "b", "c"), Lane("l", "a", "b"), Lane("m", "c", "b"),
            Avenue("x", "a", "b"), Avenue("y", "b", "c"), Avenue("z", "a", "c"))
        signs = Signs({"r": ("a", "b"), "s": ("b", "a"), "t": ("c", "b")})
        wards = [Ward(*corners) for corners in ("a", "b", "c", "ab", "ac", "bc")]
        self.assertEqual([3, 6, 2, 4, 3, 4], [into(town, signs, ward) for ward in wards])
        self.assertEqual([2, 4, 2, 3, 2, 3], [settled_into(town, ward) for ward in wards])
        self.assertEqual([0, 0, 0, 2, 0, 1], [within(town, ward) for ward in wards])
        self.assertEqual({"a": 1, "b": 2, "c": 0}, in_counts(town, signs))


class RefusedTest(Case):
    def test_no_town(self):
        for value in values_but(Town):
            for signs, ward in ((RING, Ward("a")), (None, None), (Signs.none(), Ward("z"))):
                self.check_refused(value, BadTown, {"part": "town"}, into, value, signs, ward)
                self.check_raises(BadTown, {"part": "town"}, settled_into, value, ward)
                self.check_raises(BadTown, {"part": "town"}, within, value, ward)
                self.check_raises(BadTown, {"part": "town"}, in_counts, value, signs)
                self.check_raises(BadTown, {"part": "town"}, into_by_counts, value, {"a": 1, "b": 1, "c": 1}, ward)
                self.check_raises(BadTown, {"part": "town"}, into_by_counts, value, {}, ward)

    def test_no_signs(self):
        for value in values_but(Signs) + [RING.parts]:
            for town in (triangle(), mixed(), Town()):
                for ward in (Ward("a"), Ward("z"), None):
                    self.check_refused([town, value], BadSigns, {"part": "signs"}, into, town, value, ward)
                self.check_refused([town, value], BadSigns, {"part": "signs"}, in_counts, town, value)

    def test_signs_that_do_not_fit(self):
        town = triangle()
        for signs in NO_SIGNS_OF_THE_TRIANGLE:
            for ward in (Ward("a"), Ward("z"), None):
                self.check_refused([town, signs], BadSigns, {"part": "roads"}, into, town, signs, ward)
            self.check_refused([town, signs], BadSigns, {"part": "roads"}, in_counts, town, signs)

    def test_no_ward(self):
        town = triangle()
        for value in values_but(Ward) + [("a",), ["a"], "a,b"]:
            self.check_refused([town, value], BadWard, {"part": "ward"}, into, town, RING, value)
            self.check_refused([town, value], BadWard, {"part": "ward"}, settled_into, town, value)
            self.check_refused([town, value], BadWard, {"part": "ward"}, within, town, value)
            self.check_refused([town, value], BadWard, {"part": "ward"}, into_by_counts, town, {}, value)
            self.check_raises(BadWard, {"part": "ward"}, within, Town(), value)

    def test_no_ward_of_the_town(self):
        town = triangle()
        for ward in NO_WARDS_OF_THE_TRIANGLE:
            self.check_refused([town, ward], BadWard, {"part": "town"}, into, town, RING, ward)
            self.check_refused([town, ward], BadWard, {"part": "town"}, settled_into, town, ward)
            self.check_refused([town, ward], BadWard, {"part": "town"}, within, town, ward)
            for counts in ({}, {"a": 1, "b": 1, "c": 1}):
                self.check_refused([town, ward], BadWard, {"part": "town"}, into_by_counts, town, counts, ward)
        self.check_raises(BadWard, {"part": "town"}, settled_into, Town(), Ward("a"))
        self.check_raises(BadWard, {"part": "town"}, into, Town(), Signs.none(), Ward("a"))


if __name__ == "__main__":
    unittest.main()
