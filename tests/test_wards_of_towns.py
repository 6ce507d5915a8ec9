"""signtown/wards.py: wards in towns."""

import itertools
import unittest

from signtown.errors import BadTown, BadWard
from signtown.streets import Lane
from signtown.towns import Town
from signtown.wards import Ward
from some_towns import mixed, some_towns, triangle
from values import Case, all_values, values_but


def parts_of(corners):
    """All sets of some of these corners: neither none nor all."""
    return [set(part) for many in range(1, len(corners)) for part in itertools.combinations(corners, many)]


class IsOfTest(Case):
    def test_some_corners_of_a_town(self):
        for town in some_towns():
            for part in parts_of(town.corners):
                self.assertIs(True, self.check_stays(town, Ward(*part).is_of, town))
            self.assertIs(False, Ward(*town.corners).is_of(town))
            self.assertIs(False, Ward("q").is_of(town))
            self.assertIs(False, Ward("q", town.corners[0]).is_of(town=town))

    def test_as_many_corners_as_the_town_lacks(self):
        town = triangle()
        self.assertEqual([False, False, False], [
            Ward("a", "b", "z").is_of(town), Ward("a", "b", "c", "z").is_of(town), Ward("x", "y", "z").is_of(town)])

    def test_names_of_streets_are_no_corners(self):
        self.assertIs(False, Ward("r").is_of(triangle()))

    def test_any_value(self):
        for value in all_values():
            wanted = isinstance(value, Town) and "b" in value.corners
            self.assertIs(wanted, Ward("b").is_of(value), value)
        self.assertIs(False, Ward("a").is_of(Town()))
        self.assertIs(False, Ward("a").is_of(Lane("r", "a", "b")))


class RestTest(Case):
    def test_all_other_corners(self):
        for town in some_towns():
            for part in parts_of(town.corners):
                ward = Ward(*part)
                found = self.check_stays([town, ward], ward.rest, town)
                self.assertIs(Ward, type(found))
                self.check_same(tuple(sorted(set(town.corners) - part)), found.corners)
                self.assertEqual(ward, found.rest(town=town))

    def test_no_town(self):
        for value in values_but(Town):
            self.check_refused(value, BadTown, {"part": "town"}, Ward("a").rest, value)
            self.check_raises(BadTown, {"part": "town"}, Ward("zzz").rest, value)

    def test_no_ward_of_the_town(self):
        for corners in (["z"], ["a", "z"], ["a", "b", "c"], ["a", "b", "c", "z"], ["r"]):
            ward = Ward(*corners)
            self.check_refused(ward, BadWard, {"part": "town"}, ward.rest, triangle())
        self.check_raises(BadWard, {"part": "town"}, Ward("a").rest, Town())


class CrossesTest(Case):
    def test_all_pairs(self):
        for town in some_towns():
            for one, other in itertools.product(parts_of(town.corners), repeat=2):
                wanted = bool(one & other and one - other and other - one and set(town.corners) - one - other)
                wards = [Ward(*one), Ward(*other)]
                self.assertIs(wanted, self.check_stays([town, *wards], wards[0].crosses, wards[1], town))

    def test_some_pairs_cross(self):
        ab, bc = Ward("a", "b"), Ward("b", "c")
        self.assertEqual([True, False], [ab.crosses(bc, mixed()), ab.crosses(town=triangle(), other=bc)])
        self.assertEqual([False, False, False], [
            ab.crosses(ab, mixed()), ab.crosses(Ward("a"), mixed()), ab.crosses(Ward("c", "d"), mixed())])

    def test_no_ward(self):
        for value in values_but(Ward):
            for town in (triangle(), None, Town()):
                self.check_refused(value, BadWard, {"part": "ward"}, Ward("a").crosses, value, town)
                self.check_raises(BadWard, {"part": "ward"}, Ward("zzz").crosses, value, town)

    def test_no_town(self):
        for value in values_but(Town):
            for one, other in itertools.product([Ward("a"), Ward("zzz")], repeat=2):
                self.check_raises(BadTown, {"part": "town"}, one.crosses, other, value)

    def test_no_wards_of_the_town(self):
        right, wrong = [Ward("a"), Ward("b", "c")], [Ward("z"), Ward("a", "z"), Ward("a", "b", "c"), Ward("r")]
        for one in right:
            for other in wrong:
                self.check_raises(BadWard, {"part": "town"}, one.crosses, other, triangle())
                self.check_raises(BadWard, {"part": "town"}, other.crosses, one, triangle())
                self.check_raises(BadWard, {"part": "town"}, other.crosses, other, triangle())


if __name__ == "__main__":
    unittest.main()
