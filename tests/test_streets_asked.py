"""signtown/streets.py: what streets answer, and the streets that are made of them."""

import unittest

from signtown.errors import BadPrice, BadStreet, NoCorner
from signtown.streets import Avenue, Lane, Road
from values import Case, all_values, no_names, no_prices


def some_streets():
    """Streets between b and c, none of which leads along the order of the alphabet alone."""
    return [
        Lane("s", "b", "c"), Lane("s", "c", "b"),
        Avenue("s", "b", "c"), Avenue("s", "c", "b"),
        Road("s", "b", "c", 5, -7), Road("s", "c", "b", 5, -7),
    ]


def other_values():
    """Values of all kinds that are no end of those streets."""
    return [value for value in all_values() if not isinstance(value, str) or value not in ("b", "c")]


class AskedCase(Case):
    """Looks whether the streets that are asked stay as they are."""

    def setUp(self):
        self.streets = some_streets()
        self.before = [(str(street), dict(vars(street))) for street in self.streets]

    def tearDown(self):
        self.assertEqual(self.before, [(str(street), vars(street)) for street in self.streets])


class EndsTest(AskedCase):
    def test_ends(self):
        for street in self.streets:
            self.check_same(("b", "c"), street.ends)

    def test_ends_cannot_be_assigned(self):
        for street in self.streets:
            with self.assertRaises(AttributeError):
                street.ends = ("a", "b")

    def test_in(self):
        for street in self.streets:
            self.assertIs(True, "b" in street)
            self.assertIs(True, "c" in street)
            for value in other_values():
                self.assertIs(False, value in street, value)

    def test_name_and_price_are_no_corners(self):
        road = Road("s", "b", "c", 5, 7)
        self.assertEqual([False, False, False], ["s" in road, 5 in road, road.ends in road])

    def test_far(self):
        for street in self.streets:
            self.assertEqual(["c", "b"], [street.far("b"), street.far(corner="c")])
            for value in other_values():
                self.check_raises(NoCorner, {"name": value}, street.far, value)


class LeadsTest(AskedCase):
    def test_lane(self):
        there, back = self.streets[:2]
        self.assertEqual([False, True], [there.leads("b"), there.leads("c")])
        self.assertEqual([True, False], [back.leads("b"), back.leads(goal="c")])

    def test_avenue(self):
        for street in self.streets[2:4]:
            self.assertEqual([True, True], [street.leads("b"), street.leads(goal="c")])

    def test_road(self):
        for street in self.streets[4:]:
            self.assertEqual([False, False], [street.leads("b"), street.leads(goal="c")])

    def test_answers_are_bools(self):
        for street in self.streets:
            for goal in street.ends:
                self.assertIs(bool, type(street.leads(goal)))

    def test_no_end(self):
        for street in self.streets:
            for value in other_values():
                self.check_raises(NoCorner, {"name": value}, street.leads, value)


class ChangedTest(AskedCase):
    def test_turned_about(self):
        wanted = [
            "lane s c b", "lane s b c", "avenue s b c", "avenue s b c", "road s b c -7 5", "road s b c 5 -7",
        ]
        self.assertEqual(wanted, [str(~street) for street in self.streets])
        for street in self.streets:
            self.assertIs(type(street), type(~street))
            self.assertEqual(street, ~~street)

    def test_renamed(self):
        wanted = [
            "lane z b c", "lane z c b", "avenue z b c", "avenue z b c", "road z b c 5 -7", "road z b c -7 5",
        ]
        self.assertEqual(wanted, [str(street.renamed("z")) for street in self.streets])
        self.assertEqual(wanted, [str(street.renamed(name="z")) for street in self.streets])
        for street in self.streets:
            self.assertIs(type(street), type(street.renamed("z")))
            self.assertEqual(street, street.renamed("s"))
            self.assertEqual("b", street.renamed("b").name)
            for value in no_names():
                self.check_raises(BadStreet, {"part": "name"}, street.renamed, value)

    def test_opened(self):
        for street in self.streets:
            self.assertIs(Avenue, type(street.opened()))
            self.assertEqual(Avenue("s", "b", "c"), street.opened())
        self.assertEqual("avenue x b c", str(Lane("x", "c", "b").opened()))


class RoadTest(AskedCase):
    def test_price(self):
        one, turned = self.streets[4:]
        self.assertEqual([5, -7], [one.price("c"), one.price("b")])
        self.assertEqual([-7, 5], [turned.price(goal="c"), turned.price(goal="b")])

    def test_signed(self):
        for road in self.streets[4:]:
            for goal, text in (("b", "lane s c b"), ("c", "lane s b c")):
                self.assertIs(Lane, type(road.signed(goal)))
                self.assertEqual(text, str(road.signed(goal=goal)))

    def test_no_end(self):
        for road in self.streets[4:]:
            for value in other_values():
                self.check_raises(NoCorner, {"name": value}, road.price, value)
                self.check_raises(NoCorner, {"name": value}, road.signed, value)

    def test_of_roads_alone(self):
        for street in self.streets[:4]:
            for name in ("price", "signed", "priced", "there", "back"):
                self.assertFalse(hasattr(street, name))

    def test_priced(self):
        road = self.streets[4]
        self.assertIs(Road, type(road.priced()))
        wanted = {
            "road s b c 5 -7": [road.priced(), road.priced(there=None, back=None), road.priced(there=5)],
            "road s b c 0 -7": [road.priced(there=0), road.priced(there=0, back=None)],
            "road s b c 5 0": [road.priced(back=0), road.priced(back=0, there=None)],
            "road s b c 0 0": [road.priced(there=0, back=0)],
            "road s b c 1 2": [road.priced(there=1, back=2), road.priced(back=2, there=1)],
            "road s b c 999999999999 -999999999999": [road.priced(there=10 ** 12 - 1, back=1 - 10 ** 12)],
        }
        for text, roads in wanted.items():
            for found in roads:
                self.assertEqual(text, str(found))

    def test_priced_of_exchanged_ends(self):
        road = self.streets[5]
        self.assertEqual("road s b c 1 5", str(road.priced(there=1)))
        self.assertEqual("road s b c -7 1", str(road.priced(back=1)))

    def test_priced_refuses(self):
        for road in self.streets[4:]:
            for value in no_prices():
                if value is not None:
                    self.check_raises(BadPrice, {"value": value}, road.priced, there=value)
                    self.check_raises(BadPrice, {"value": value}, road.priced, back=value)
                    self.check_raises(BadPrice, {"value": value}, road.priced, there=value, back=5)
                    self.check_raises(BadPrice, {"value": value}, road.priced, there=None, back=value)
                    self.check_raises(BadPrice, {"value": value}, road.priced, there=value, back="x")
            self.check_raises(BadPrice, {"value": True}, road.priced, back=False, there=True)

    def test_priced_by_name_alone(self):
        self.assertRaises(TypeError, self.streets[4].priced, 1)
        self.assertRaises(TypeError, self.streets[4].priced, 1, 2)


if __name__ == "__main__":
    unittest.main()
