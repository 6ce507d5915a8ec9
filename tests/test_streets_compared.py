"""signtown/streets.py: a street equals just what has the same class, name, ends, direction and prices."""

import unittest

from signtown.streets import Avenue, Lane, Road
from values import Case, all_values


class EqualTest(Case):
    def test_equal(self):
        self.check_equal(Lane("s", "a", "b"), Lane("s", "a", "b"))
        self.check_equal(Lane("s", "b", "a"), Lane("s", "b", "a"))
        self.check_equal(Avenue("s", "a", "b"), Avenue("s", "a", "b"))
        self.check_equal(Avenue("s", "a", "b"), Avenue("s", "b", "a"))
        self.check_equal(Road("s", "a", "b", 1, 2), Road("s", "a", "b", 1, 2))
        self.check_equal(Road("s", "a", "b", 1, 2), Road("s", "b", "a", 2, 1))
        self.check_equal(Road("s", "a", "b"), Road("s", "b", "a", 0, 0))

    def test_all_unlike_one_another(self):
        streets = [
            Lane("s", "a", "b"), Lane("s", "b", "a"), Lane("t", "a", "b"), Lane("s", "a", "c"), Lane("s", "c", "b"),
            Avenue("s", "a", "b"), Avenue("t", "a", "b"), Avenue("s", "a", "c"), Avenue("s", "c", "b"),
            Road("s", "a", "b"), Road("t", "a", "b"), Road("s", "a", "c"), Road("s", "c", "b"),
            Road("s", "a", "b", 1, 2), Road("s", "a", "b", 2, 1), Road("s", "a", "b", 1, 1), Road("s", "a", "b", 2, 2),
            Road("s", "a", "b", 1, -2), Road("s", "a", "b", 1), Road("s", "a", "b", 0, 1),
            Road("t", "a", "b", 1, 2), Road("s", "a", "c", 1, 2), Road("s", "c", "b", 1, 2),
        ]
        for at, one in enumerate(streets):
            for place, other in enumerate(streets):
                if at == place:
                    self.check_equal(one, other)
                else:
                    self.check_unlike(one, other)

    def test_unlike_what_is_no_street(self):
        for street in (Lane("s", "a", "b"), Avenue("s", "a", "b"), Road("s", "a", "b", 1, 2)):
            for value in [*all_values(), str(street), street.name, street.ends, [street], (street,), vars(street)]:
                self.check_unlike(street, value)

    def test_in_a_list(self):
        streets = [Lane("s", "a", "b"), Road("s", "a", "b")]
        self.assertIn(Road("s", "b", "a"), streets)
        self.assertNotIn(Lane("s", "b", "a"), streets)


if __name__ == "__main__":
    unittest.main()
