"""signtown/towns.py: towns that are made, and what they tell of themselves."""

import inspect
import itertools
import unittest

from signtown.errors import BadTown, NoStreet, TooMany, Unlike
from signtown.streets import Avenue, Lane, Road, Street
from signtown.towns import Town
from signtown.wards import Ward
from some_towns import LETTERS, many_streets, mixed, some_towns, star, texts, triangle
from values import Case, all_values, values_but


class MadeTest(Case):
    def test_none(self):
        town = Town()
        self.assertEqual([(), (), (), ()], [town.streets, town.names, town.corners, town.roads])
        self.assertEqual([True, 0, False, []], [town.is_plain, len(town), bool(town), list(town)])

    def test_streets_in_any_order(self):
        streets = [Lane("q", "d", "b"), Avenue("b", "a", "c"), Road("qq", "b", "a", 2, 1)]
        for row in itertools.permutations(streets):
            town = Town(*row)
            self.check_same(("b", "q", "qq"), town.names)
            self.check_same(("a", "b", "c", "d"), town.corners)
            self.check_same(("qq",), town.roads)
            self.assertIs(tuple, type(town.streets))
            self.assertEqual(["avenue b a c", "lane q d b", "road qq a b 1 2"], texts(town))
            self.assertEqual(list(town), list(town.streets))

    def test_equal_streets_count_once(self):
        streets = many_streets(14)
        town = Town(*streets, *many_streets(14), *reversed(streets))
        self.assertEqual([14, True], [len(town), town == Town(*streets)])
        self.assertEqual(1, len(Town(Road("r", "a", "b", 1, 2), Road("r", "b", "a", 2, 1))))

    def test_up_to_fourteen_streets(self):
        for many in range(15):
            town = Town(*reversed(many_streets(many)))
            self.check_same(many, len(town))
            self.check_same(tuple(LETTERS[:many]), town.names)

    def test_too_many_streets(self):
        for many in (15, 16, 26):
            self.check_raises(TooMany, {"what": "streets", "most": 14}, Town, *many_streets(many))

    def test_up_to_seven_corners(self):
        for many in range(1, 7):
            self.check_same(tuple(LETTERS[:many + 1]), Town(*star(many)).corners)
        for many in (7, 8):
            self.check_raises(TooMany, {"what": "corners", "most": 7}, Town, *star(many))

    def test_corners_ahead_of_streets(self):
        streets = star(7) + [Road("x" + letter, "a", "b") for letter in LETTERS[:14]]
        self.check_raises(TooMany, {"what": "corners", "most": 7}, Town, *streets)
        self.check_raises(TooMany, {"what": "streets", "most": 14}, Town, *streets[:6], *streets[7:])

    def test_no_street(self):
        for value in values_but(Street):
            self.check_raises(BadTown, {"part": "street"}, Town, value)
            self.check_raises(BadTown, {"part": "street"}, Town, *many_streets(3), value)
            self.check_raises(BadTown, {"part": "street"}, Town, value, *star(8), *many_streets(26))

    def test_unlike_streets(self):
        pairs = [
            (Lane("s", "a", "b"), Lane("s", "b", "a")), (Lane("s", "a", "b"), Avenue("s", "a", "b")),
            (Avenue("s", "a", "b"), Avenue("s", "a", "c")), (Road("s", "a", "b"), Road("s", "a", "b", 0, 1)),
            (Road("s", "a", "b"), Avenue("s", "a", "b")),
        ]
        for one, other in pairs:
            self.check_raises(Unlike, {"part": "s"}, Town, one, other)
            self.check_raises(Unlike, {"part": "s"}, Town, other, one)
            self.check_raises(Unlike, {"part": "s"}, Town, one, one, Lane("a", "a", "b"), one, other, one)

    def test_least_unlike_name(self):
        streets = [Lane(name, "a", "b") for name in ("c", "ab", "b", "a")]
        turned = [~street for street in streets]
        for row in itertools.permutations(turned[:3]):
            self.check_raises(Unlike, {"part": "ab"}, Town, *streets, *row)
            self.check_raises(Unlike, {"part": "ab"}, Town, *row, *streets)

    def test_unlike_ahead_of_too_many(self):
        self.check_raises(Unlike, {"part": "a"}, Town, *star(9), *many_streets(26), Lane("a", "b", "a"))
        self.check_raises(BadTown, {"part": "street"}, Town, *star(9), *many_streets(26), Lane("a", "b", "a"), None)

    def test_class_values(self):
        self.check_same(7, Town.CORNERS)
        self.check_same(14, Town.STREETS)
        self.assertEqual([7, 14], [Town().CORNERS, triangle().STREETS])


class ToldTest(Case):
    def test_properties_cannot_be_assigned(self):
        for name in ("streets", "names", "corners", "roads", "is_plain"):
            self.assertIsInstance(vars(Town)[name], property)
            with self.assertRaises(AttributeError):
                setattr(triangle(), name, ())

    def test_roads_and_is_plain(self):
        self.check_same(("r", "s", "t"), triangle().roads)
        self.check_same(("r", "s", "t", "u"), mixed().roads)
        self.check_same((), Town(*many_streets(2)).roads)
        self.assertIs(True, triangle().is_plain)
        self.assertIs(False, mixed().is_plain)
        self.assertIs(False, Town(Lane("l", "a", "b")).is_plain)
        self.assertIs(False, (triangle() | Avenue("x", "a", "b")).is_plain)

    def test_iterated_over_again_and_again(self):
        for town in some_towns():
            self.assertEqual(list(town.streets), list(town))
            self.assertEqual(list(town.names), [street.name for street in town])
            self.assertEqual(len(town) ** 2, len(list(itertools.product(town, town))))

    def test_truth(self):
        for town in some_towns():
            self.assertIs(True, bool(town))
        self.assertIs(False, bool(Town()))

    def test_street_of_a_name(self):
        for town in some_towns():
            for street in town:
                self.assertEqual(str(street), str(town[street.name]))
                self.assertIs(type(street), type(town[street.name]))

    def test_no_name_of_a_street(self):
        for town in (Town(), mixed()):
            for value in [*all_values(), "rr", ("r",), Road("r", "a", "b", 3, -4)]:
                self.assertIs(False, value in town, value)
                self.check_refused(town, NoStreet, {"name": value}, town.__getitem__, value)

    def test_in(self):
        town = triangle()
        self.assertEqual([True, True, True, False], [name in town for name in ("r", "s", "t", "q")])
        self.assertIs(True, "r" in town)

    def test_wards_in_their_order(self):
        self.assertEqual(["a", "b", "c", "a,b", "a,c", "b,c"], [str(ward) for ward in triangle().wards()])
        for town in [*some_towns(), Town(*star(6)), Town()]:
            found = self.check_stays(town, lambda: list(town.wards()))
            corners = town.corners
            wanted = [part for many in range(1, len(corners)) for part in itertools.combinations(corners, many)]
            self.assertEqual(wanted, [ward.corners for ward in found])
            self.assertEqual([True] * len(wanted), [isinstance(ward, Ward) and ward.is_of(town) for ward in found])
        self.assertEqual(126, len(list(Town(*star(6)).wards())))

    def test_wards_is_a_generator(self):
        self.assertTrue(inspect.isgenerator(triangle().wards()))
        self.assertEqual([], list(Town().wards()))

    def test_equal(self):
        for one, other in itertools.combinations(some_towns(), 2):
            self.check_unlike(one, other)
        for one, other in zip(some_towns(), some_towns()):
            self.check_equal(one, other)
        self.check_equal(Town(), Town())
        self.check_unlike(Town(), triangle())
        self.check_unlike(triangle(), triangle().priced("r", there=1))
        self.check_unlike(triangle(), triangle() - "r")
        self.check_unlike(Town(Lane("l", "a", "b")), Town(Lane("l", "b", "a")))

    def test_equal_to_nothing_else(self):
        for town in (Town(), triangle()):
            for value in values_but(Town) + [town.streets, list(town), town.names, Lane("l", "a", "b")]:
                self.check_unlike(town, value)


if __name__ == "__main__":
    unittest.main()
