"""signtown/towns.py: towns that are put together, compared and turned about."""

import itertools
import operator
import unittest

from signtown.errors import BadTown, NoStreet, TooMany, Unlike
from signtown.streets import Avenue, Lane, Road, Street
from signtown.towns import Town
from some_towns import many_streets, mixed, some_towns, star, texts, triangle
from values import Case, all_values, values_but

JOINS = (operator.or_, operator.ior)
MEETS = (operator.and_, operator.iand)
TAKES = (operator.sub, operator.isub)


class JoinedTest(Case):
    def test_with_a_street(self):
        for call in JOINS:
            for text in ("lane qq a z", "avenue qq a z", "road qq a z 1 2", "road qq a b 0 5"):
                town, street = triangle(), Street.read(text)
                found = self.check_stays([town, street], call, town, street)
                self.assertEqual([text, "road r a b 0 5", "road s b c 0 5", "road t a c 0 5"], texts(found))
            self.assertEqual(triangle(), call(triangle(), Road("t", "c", "a", 5, 0)))
            self.assertEqual(["lane l a b"], texts(call(Town(), Lane("l", "a", "b"))))

    def test_with_a_town(self):
        town, other = triangle(), Town(Lane("l", "y", "z"), Road("r", "a", "b", 0, 5))
        for call in JOINS:
            found = self.check_stays([town, other], call, town, other)
            self.assertEqual(["lane l y z", "road r a b 0 5", "road s b c 0 5", "road t a c 0 5"], texts(found))
            self.assertEqual(found, call(other, town))
            self.assertEqual([town, town, town], [call(town, town), call(town, Town()), call(Town(), town)])

    def test_with_no_street_and_no_town(self):
        for call in JOINS:
            for town in (Town(), triangle(), Town(*many_streets(14))):
                for value in values_but(Street, Town) + ["r", [Lane("l", "a", "b")], (Lane("l", "a", "b"),)]:
                    self.check_refused([town, value], BadTown, {"part": "street"}, call, town, value)

    def test_unlike(self):
        town = triangle()
        for call in JOINS:
            self.check_refused(town, Unlike, {"part": "r"}, call, town, Road("r", "a", "b", 0, 6))
            self.check_refused(town, Unlike, {"part": "s"}, call, town, Lane("s", "b", "c"))
            self.check_refused(town, Unlike, {"part": "r"}, call, town, Town(Lane("t", "a", "c"), Lane("r", "a", "b")))
            self.check_refused(town, Unlike, {"part": "r"}, call, Town(*star(6)) | Lane("r", "a", "b"),
                               Town(Lane("y", "a", "y"), Lane("r", "a", "z")))

    def test_too_many(self):
        full = Town(*star(6))
        for call in JOINS:
            for more in (Lane("l", "a", "h"), Town(Lane("l", "y", "z"))):
                self.check_refused(full, TooMany, {"what": "corners", "most": 7}, call, full, more)
        full = Town(*many_streets(14))
        for call in JOINS:
            for more in (Lane("z", "a", "b"), Town(Lane("y", "a", "b"), Lane("z", "a", "c"))):
                self.check_refused(full, TooMany, {"what": "streets", "most": 14}, call, full, more)
            self.assertEqual(full, call(full, Lane("a", "a", "b")))

    def test_without_a_street(self):
        for call in TAKES:
            for town in some_towns():
                for name in town.names:
                    found = self.check_stays(town, call, town, name)
                    self.assertEqual([str(street) for street in town if street.name != name], texts(found))
            self.assertEqual(("a", "b"), call(Town(Lane("l", "a", "b"), Lane("m", "c", "a")), "m").corners)

    def test_without_what_is_no_street(self):
        for call in TAKES:
            for town in (Town(), mixed()):
                for value in [*all_values(), "rr", ("r",), ["r"], mixed()["r"]]:
                    self.check_refused(town, NoStreet, {"name": value}, call, town, value)

    def test_common_streets(self):
        turned = Town(Lane("l", "b", "a"), Road("r", "a", "b", 3, -4), Road("s", "a", "b", 8, 7), Avenue("w", "c", "d"))
        for call in MEETS:
            found = self.check_stays([mixed(), turned], call, mixed(), turned)
            self.assertEqual(["road r a b 3 -4", "avenue w c d"], texts(found))
            for one, other in itertools.product(some_towns(), repeat=2):
                wanted = [str(street) for street in one if str(street) in [str(part) for part in other]]
                self.assertEqual(wanted, texts(call(one, other)))

    def test_in_place_binds_the_name(self):
        town = first = triangle()
        town |= Lane("l", "a", "z")
        town |= Town(Lane("m", "a", "z"))
        self.assertEqual([("l", "m", "r", "s", "t"), ("r", "s", "t")], [town.names, first.names])
        town -= "s"
        self.assertEqual([("l", "m", "r", "t"), ("r", "s", "t")], [town.names, first.names])
        town &= first
        self.assertEqual([("r", "t"), ("r", "s", "t")], [town.names, first.names])


class ComparedTest(Case):
    def test_has_all_streets(self):
        towns = some_towns() + [Town(), triangle() - "r", triangle().priced("r", there=7), ~triangle()]
        for one, other in itertools.product(towns, repeat=2):
            wanted = {str(street) for street in one} <= {str(street) for street in other}
            self.assertIs(wanted, self.check_stays([one, other], operator.le, one, other))
        self.assertEqual([True, False], [triangle() - "r" <= triangle(), triangle() <= triangle() - "r"])

    def test_no_town(self):
        for call in (*MEETS, operator.le):
            for town in (Town(), triangle()):
                for value in values_but(Town) + [triangle().streets, triangle()["r"]]:
                    self.check_refused([town, value], BadTown, {"part": "town"}, call, town, value)


class TurnedTest(Case):
    def test_turned_about(self):
        for town in some_towns():
            found = self.check_stays(town, operator.invert, town)
            self.assertEqual([str(~street) for street in town], texts(found))
            self.assertEqual(town, ~found)
        self.assertEqual(["road r a b 5 0", "road s b c 5 0", "road t a c 5 0"], texts(~triangle()))
        self.assertEqual(["lane l b a", "avenue x a b"], texts(~Town(Avenue("x", "b", "a"), Lane("l", "a", "b"))))
        self.assertEqual(Town(), ~Town())


if __name__ == "__main__":
    unittest.main()
