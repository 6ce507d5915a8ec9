"""signtown/towns.py: towns that are made of a town: shut, opened, priced, settled, renamed."""

import itertools
import unittest

from signtown.errors import BadName, BadPrice, BadSigns, NoRoad, NoStreet, Unlike
from signtown.signs import Signs
from signtown.streets import Avenue, Lane, Road
from signtown.towns import Town
from some_towns import all_signs, mixed, some_towns, texts, triangle
from values import Case, all_values, no_names, no_prices, values_but


class ShutTest(Case):
    def test_some_streets(self):
        for town in some_towns():
            for many in range(4):
                for names in itertools.permutations(town.names, min(many, len(town))):
                    found = self.check_stays(town, town.shut, *names)
                    self.assertEqual([str(street) for street in town if street.name not in names], texts(found))

    def test_a_name_twice(self):
        town = triangle()
        self.assertEqual(["road s b c 0 5"], texts(town.shut("t", "r", "t", "r")))
        self.assertEqual([("a", "c"), ()], [town.shut("r", "s").corners, town.shut("r", "s", "t").corners])
        self.assertEqual(town, town.shut())
        self.assertEqual(Town(), Town().shut())

    def test_first_wrong_value(self):
        town = triangle()
        for call in (town.shut, town.opened):
            for value in all_values():
                self.check_refused([town, value], NoStreet, {"name": value}, call, value)
                self.check_refused(town, NoStreet, {"name": value}, call, "r", value, None, "x")
                self.check_refused(town, NoStreet, {"name": None}, call, "r", "r", None, value, "s")
            self.check_refused(town, NoStreet, {"name": "x"}, call, "r", "x", None)
            self.check_refused(town, NoStreet, {"name": True}, call, True, 1, "x")
        self.check_refused(town, NoStreet, {"name": ("r", "s")}, town.shut, ("r", "s"))


class OpenedTest(Case):
    def test_some_streets(self):
        for town in some_towns():
            for many in range(4):
                for names in itertools.permutations(town.names, min(many, len(town))):
                    found = self.check_stays(town, town.opened, *names)
                    wanted = [
                        "avenue {} {} {}".format(street.name, *street.ends) if street.name in names else str(street)
                        for street in town]
                    self.assertEqual(wanted, texts(found))

    def test_a_name_twice(self):
        town = Town(Lane("l", "b", "a"), Avenue("x", "a", "b"), Road("r", "a", "c", 1, 2))
        self.assertEqual(
            ["avenue l a b", "avenue r a c", "avenue x a b"], texts(town.opened("r", "l", "x", "r", "l", "x")))
        self.assertEqual(town, town.opened())
        self.assertEqual(town, town.opened("x"))


class PricedTest(Case):
    def test_prices(self):
        town = triangle()
        wanted = {
            "road r a b 0 5": [town.priced("r"), town.priced("r", there=None, back=None), town.priced("r", back=5)],
            "road r a b 7 5": [town.priced("r", there=7), town.priced("r", there=7, back=None)],
            "road r a b 0 -7": [town.priced("r", back=-7), town.priced(name="r", back=-7)],
            "road r a b 0 0": [town.priced("r", back=0), town.priced("r", there=0, back=0)],
            "road r a b 1 2": [town.priced("r", there=1, back=2), town.priced(back=2, there=1, name="r")],
            "road r a b 999999999999 -999999999999": [town.priced("r", there=10 ** 12 - 1, back=1 - 10 ** 12)],
        }
        for text, towns in wanted.items():
            for found in towns:
                self.assertEqual([text, "road s b c 0 5", "road t a c 0 5"], texts(found))

    def test_the_town_stays(self):
        town = triangle()
        self.assertNotEqual(town, self.check_stays(town, town.priced, "s", there=1, back=2))

    def test_no_road(self):
        town = mixed()
        for value in [*all_values(), "l", "n", "x", "rr", ("r",), ["r"], town["r"]]:
            for prices in ({}, {"there": 1}, {"there": "x", "back": True}):
                self.check_refused([town, value], NoRoad, {"name": value}, town.priced, value, **prices)
            self.check_raises(NoRoad, {"name": value}, Town().priced, value)

    def test_no_price(self):
        town = triangle()
        for value in no_prices():
            if value is not None:
                self.check_refused(town, BadPrice, {"value": value}, town.priced, "r", there=value)
                self.check_refused(town, BadPrice, {"value": value}, town.priced, "r", back=value)
                self.check_refused(town, BadPrice, {"value": value}, town.priced, "r", there=value, back="x")
                self.check_refused(town, BadPrice, {"value": value}, town.priced, "r", there=None, back=value)
        self.check_refused(town, BadPrice, {"value": True}, town.priced, "r", back=False, there=True)

    def test_prices_by_name_alone(self):
        self.assertRaises(TypeError, triangle().priced, "r", 1)


class SettledTest(Case):
    def test_all_roads(self):
        for town in some_towns():
            for signs in all_signs(town):
                found = self.check_stays([town, signs], town.settled, signs)
                wanted = [
                    "lane {} {} {}".format(street.name, *signs.parts[street.name]) if isinstance(street, Road)
                    else str(street) for street in town]
                self.assertEqual(wanted, texts(found))
                self.assertEqual(found, town.settled(signs=signs))

    def test_some_roads(self):
        town = mixed()
        found = self.check_stays(town, town.settled, Signs({"s": ("b", "a"), "u": ("c", "d")}))
        self.assertEqual(["lane s b a", "lane u c d"], [str(found["s"]), str(found["u"])])
        self.assertEqual(town - "s" - "u", found - "s" - "u")
        self.assertEqual(("r", "t"), found.roads)
        self.assertEqual(town, town.settled(Signs.none()))
        self.assertEqual(Town(), Town().settled(Signs.none()))

    def test_no_signs(self):
        for value in values_but(Signs) + [{"r": ("a", "b")}]:
            for town in (Town(), triangle()):
                self.check_refused([town, value], BadSigns, {"part": "signs"}, town.settled, value)

    def test_no_road(self):
        town = mixed()
        for name in ("l", "x", "q", "a"):
            self.check_refused(town, NoRoad, {"name": name}, town.settled, Signs({name: ("a", "b")}))
        signs = Signs({"z": ("c", "d"), "x": ("a", "b"), "r": ("a", "b"), "xx": ("a", "b"), "s": ("a", "b")})
        self.check_refused([town, signs], NoRoad, {"name": "x"}, town.settled, signs)
        self.check_refused(town, NoRoad, {"name": "r"}, Town().settled, Signs({"s": ("a", "b"), "r": ("a", "b")}))

    def test_other_ends(self):
        town = mixed()
        for pair in (("a", "c"), ("c", "a"), ("c", "b"), ("b", "c"), ("c", "d"), ("a", "z")):
            self.check_refused(town, Unlike, {"part": "r"}, town.settled, Signs({"r": pair}))
        signs = Signs({"u": ("a", "b"), "t": ("a", "b"), "r": ("a", "b"), "s": ("b", "a")})
        self.check_refused(town, Unlike, {"part": "t"}, town.settled, signs)

    def test_no_road_ahead_of_other_ends(self):
        signs = Signs({"r": ("a", "z"), "x": ("a", "b")})
        self.check_refused(signs, NoRoad, {"name": "x"}, mixed().settled, signs)


class RenamedTest(Case):
    def test_each_kind_of_street(self):
        town = Town(Lane("l", "a", "b"), Avenue("x", "a", "b"), Road("r", "a", "b", 1, 2))
        wanted = {
            "z": ["lane l z b", "road r b z 2 1", "avenue x b z"],
            "aa": ["lane l aa b", "road r aa b 1 2", "avenue x aa b"],
        }
        for name, streets in wanted.items():
            new = {"a": name}
            self.assertEqual(streets, texts(self.check_stays([town, new], town.renamed, new)))
            self.assertEqual(streets, texts(town.renamed(corners={"a": name, "b": "b"})))

    def test_exchanged_names(self):
        new = {"a": "b", "b": "a"}
        town = Town(Lane("l", "a", "b"), Avenue("x", "a", "c"), Road("r", "a", "b", 1, 2), Lane("m", "c", "b"))
        found = self.check_stays([town, new], town.renamed, new)
        self.assertEqual(["lane l b a", "lane m c a", "road r a b 2 1", "avenue x b c"], texts(found))
        self.assertEqual(town, found.renamed(new))
        self.assertEqual(["road r b c 0 5", "road s a c 5 0", "road t a b 5 0"],
                         texts(triangle().renamed({"a": "b", "b": "c", "c": "a"})))

    def test_a_corner_that_is_not_named_stays(self):
        for town in [Town(), *some_towns()]:
            for new in ({}, {"q": "a"}, {"q": None, "r": 7}, {corner: corner for corner in town.corners}):
                self.assertEqual(town, self.check_stays([town, new], town.renamed, new))

    def test_keys_that_are_no_corners_play_no_part(self):
        new = {"q": None, "r": "b", "z": "a", "c": "x", "s": "", "d": "x"}
        found = self.check_stays(new, triangle().renamed, new)
        self.assertEqual(["road r a b 0 5", "road s b x 0 5", "road t a x 0 5"], texts(found))

    def test_no_names(self):
        town = triangle()
        for value in no_names():
            self.check_refused([town, value], BadName, {"value": value}, town.renamed, {"b": value})
            self.check_refused(town, BadName, {"value": value}, town.renamed, {"c": None, "b": value, "a": "z"})
            self.check_refused(town, BadName, {"value": value}, town.renamed, {"c": value, "b": "a", "a": "a"})
        self.check_refused(town, BadName, {"value": True}, town.renamed, {"c": 1, "b": True})

    def test_one_name_for_two_corners(self):
        town = triangle()
        for part, new in (
                ("b", {"a": "b"}), ("a", {"b": "a"}), ("z", {"a": "z", "b": "z"}), ("b", {"a": "b", "c": "b"}),
                ("z", {"a": "z", "b": "z", "c": "z"}), ("c", {"a": "c", "b": "x"}), ("aa", {"b": "aa", "a": "aa"})):
            self.check_refused([town, new], Unlike, {"part": part}, town.renamed, new)

    def test_least_name_for_two_corners(self):
        new = {"a": "z", "b": "y", "c": "z", "d": "y"}
        for row in itertools.permutations(new):
            self.check_raises(Unlike, {"part": "y"}, mixed().renamed, {corner: new[corner] for corner in row})


if __name__ == "__main__":
    unittest.main()
