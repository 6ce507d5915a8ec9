"""signtown/wards.py: wards that are put together and compared."""

import itertools
import operator
import unittest

from signtown.errors import BadWard, TooMany
from signtown.wards import Ward
from values import Case, values_but

SIGNS = [
    (operator.or_, operator.ior, set.union),
    (operator.and_, operator.iand, set.intersection),
    (operator.sub, operator.isub, set.difference),
]
OPERATORS = [call for row in SIGNS for call in row[:2]] + [operator.le, operator.lt]


def all_wards(letters):
    """All wards of some of these corners."""
    return [Ward(*corners) for many in range(1, len(letters) + 1) for corners in itertools.combinations(letters, many)]


class JoinedTest(Case):
    def check_joined(self, plain, in_place, wanted, one, other):
        for call in (plain, in_place):
            if wanted:
                found = self.check_stays([one, other], call, one, other)
                self.assertIs(Ward, type(found))
                self.check_same(tuple(sorted(wanted)), found.corners)
            else:
                self.check_refused([one, other], BadWard, {"part": "none"}, call, one, other)

    def test_as_sets(self):
        for plain, in_place, of_sets in SIGNS:
            for one, other in itertools.product(all_wards("abcd"), repeat=2):
                self.check_joined(plain, in_place, of_sets(set(one), set(other)), one, other)

    def test_plain_cases(self):
        ab, bc = Ward("a", "b"), Ward("b", "c")
        self.assertEqual(["a,b,c", "b", "a", "c"], [str(ab | bc), str(ab & bc), str(ab - bc), str(bc - ab)])
        self.assertEqual(["a,b", "a,b"], [str(ab | ab), str(ab & ab)])
        self.check_raises(BadWard, {"part": "none"}, operator.sub, ab, ab)
        self.check_raises(BadWard, {"part": "none"}, operator.sub, Ward("a"), ab)
        self.check_raises(BadWard, {"part": "none"}, operator.and_, ab, Ward("c"))

    def test_too_many(self):
        four, three = Ward("a", "b", "c", "d"), Ward("e", "f", "g")
        self.assertEqual(7, len(four | three))
        self.assertEqual(7, len(four | (three | Ward("a"))))
        for call in (operator.or_, operator.ior):
            kept = [four, three]
            self.check_refused(kept, TooMany, {"what": "corners", "most": 7}, call, four, Ward("e", "f", "g", "h"))
            self.check_refused(kept, TooMany, {"what": "corners", "most": 7}, call, four | three, Ward("h"))

    def test_no_ward_on_the_right(self):
        seven = Ward(*"abcdefg")
        for ward in (Ward("a"), seven):
            for value in values_but(Ward) + [("a",), "z", {"a": "b"}, {"a"}]:
                for call in OPERATORS:
                    self.check_refused(ward, BadWard, {"part": "ward"}, call, ward, value)

    def test_in_place_binds_the_name(self):
        ward = first = Ward("a", "b")
        ward |= Ward("c")
        self.assertEqual(["a,b,c", "a,b"], [str(ward), str(first)])
        ward &= Ward("b", "c", "z")
        self.assertEqual(["b,c", "a,b"], [str(ward), str(first)])
        ward -= Ward("b")
        self.assertEqual(["c", "a,b"], [str(ward), str(first)])
        ward |= ward
        self.assertEqual("c", str(ward))


class ComparedTest(Case):
    def test_as_sets(self):
        for one, other in itertools.product(all_wards("abcd"), repeat=2):
            self.assertIs(set(one) <= set(other), self.check_stays([one, other], operator.le, one, other))
            self.assertIs(set(one) < set(other), self.check_stays([one, other], operator.lt, one, other))

    def test_plain_cases(self):
        a, ab, bc = Ward("a"), Ward("a", "b"), Ward("b", "c")
        self.assertEqual([True, True, False, False, False], [a <= ab, ab <= ab, ab <= a, ab <= bc, bc <= ab])
        self.assertEqual([True, False, False, False, False], [a < ab, ab < ab, ab < a, ab < bc, bc < ab])


if __name__ == "__main__":
    unittest.main()
