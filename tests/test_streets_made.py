"""signtown/streets.py: streets are made, with their attributes, or refused."""

import unittest

from signtown.errors import BadPrice, BadStreet
from signtown.streets import Avenue, Even, Lane, Road, Settled, Street
from values import Case, no_names, no_prices

MAKERS = (Lane, Avenue, Road)
BOUNDS = (0, 1, -1, 999999999999, -999999999999)


class KindsTest(Case):
    def test_bases(self):
        self.assertEqual((Street,), Settled.__bases__)
        self.assertEqual((Street,), Even.__bases__)
        self.assertEqual((Settled,), Lane.__bases__)
        self.assertEqual((Settled, Even), Avenue.__bases__)
        self.assertEqual((Even,), Road.__bases__)

    def test_what_streets_are(self):
        kinds = (Street, Settled, Even, Lane, Avenue, Road)
        wanted = {
            Lane: [True, True, False, True, False, False],
            Avenue: [True, True, True, False, True, False],
            Road: [True, False, True, False, False, True],
        }
        for maker, answers in wanted.items():
            self.assertEqual(answers, [isinstance(maker("s", "a", "b"), kind) for kind in kinds])


class MadeTest(Case):
    def check_attributes(self, street, **wanted):
        self.assertEqual(wanted, {name: getattr(street, name) for name in wanted})

    def test_lane(self):
        self.check_attributes(Lane("s", "a", "b"), name="s", start="a", goal="b")
        self.check_attributes(Lane("s", "b", "a"), name="s", start="b", goal="a")
        self.check_attributes(Lane(goal="a", start="b", name="s"), name="s", start="b", goal="a")

    def test_avenue(self):
        self.check_attributes(Avenue("s", "a", "b"), name="s", one="a", other="b")
        self.check_attributes(Avenue("s", "b", "a"), name="s", one="a", other="b")
        self.check_attributes(Avenue(other="a", one="b", name="s"), name="s", one="a", other="b")

    def test_road(self):
        self.check_attributes(Road("s", "a", "b", 5, 7), name="s", one="a", other="b", there=5, back=7)
        self.check_attributes(Road("s", "b", "a", 5, 7), name="s", one="a", other="b", there=7, back=5)
        self.check_attributes(
            Road(back=7, there=5, other="a", one="b", name="s"), name="s", one="a", other="b", there=7, back=5)

    def test_road_with_prices_left_out(self):
        self.check_attributes(Road("s", "a", "b"), there=0, back=0)
        self.check_attributes(Road("s", "b", "a"), there=0, back=0)
        self.check_attributes(Road("s", "a", "b", 5), there=5, back=0)
        self.check_attributes(Road("s", "b", "a", 5), there=0, back=5)
        self.check_attributes(Road("s", "a", "b", there=5), there=5, back=0)
        self.check_attributes(Road("s", "a", "b", back=5), there=0, back=5)
        self.check_attributes(Road("s", "b", "a", back=5), there=5, back=0)

    def test_ends_are_ordered_as_texts(self):
        for one, other in (("a", "b"), ("a", "aa"), ("ab", "b"), ("abc", "abd"), ("y", "z"), ("aaaaaaaa", "aaaaaaab")):
            for maker in (Avenue, Road):
                for first, second in ((one, other), (other, one)):
                    self.check_attributes(maker("s", first, second), one=one, other=other)

    def test_longest_names_and_a_name_that_is_an_end(self):
        for maker in MAKERS:
            self.assertEqual(("abcdefgh", "zzzzzzzz"), maker("zzzzzzzz", "zzzzzzzz", "abcdefgh").ends)
            self.assertEqual("a", maker("a", "a", "b").name)

    def test_prices_at_their_bounds(self):
        for there in BOUNDS:
            for back in BOUNDS:
                self.check_attributes(Road("s", "a", "b", there, back), there=there, back=back)


class RefusedTest(Case):
    def check_part(self, part, maker, *values, **named):
        self.check_raises(BadStreet, {"part": part}, maker, *values, **named)

    def test_name(self):
        for value in no_names():
            for maker in MAKERS:
                self.check_part("name", maker, value, "a", "b")

    def test_end(self):
        for value in no_names():
            for maker in MAKERS:
                self.check_part("end", maker, "s", value, "b")
                self.check_part("end", maker, "s", "a", value)

    def test_same(self):
        for maker in MAKERS:
            for corner in ("a", "s", "abcdefgh"):
                self.check_part("same", maker, "s", corner, corner)

    def test_price(self):
        for value in no_prices():
            self.check_raises(BadPrice, {"value": value}, Road, "s", "a", "b", value)
            self.check_raises(BadPrice, {"value": value}, Road, "s", "b", "a", value, 5)
            self.check_raises(BadPrice, {"value": value}, Road, "s", "a", "b", 5, value)
            self.check_raises(BadPrice, {"value": value}, Road, "s", "b", "a", there=5, back=value)
            self.check_raises(BadPrice, {"value": value}, Road, "s", "b", "a", back=value)

    def test_first_wrong_price(self):
        for one, other in (("a", "b"), ("b", "a")):
            self.check_raises(BadPrice, {"value": None}, Road, "s", one, other, None, True)
            self.check_raises(BadPrice, {"value": True}, Road, "s", one, other, True, None)
            self.check_raises(BadPrice, {"value": 10 ** 12}, Road, "s", one, other, back=-10 ** 12, there=10 ** 12)

    def test_name_first_then_ends_then_same_then_prices(self):
        for maker in MAKERS:
            self.check_part("name", maker, "S", "A", "A")
            self.check_part("name", maker, "S", "a", "a")
            self.check_part("name", maker, None, None, None)
            self.check_part("end", maker, "s", "A", "A")
            self.check_part("end", maker, "s", 1, True)
            self.check_part("end", maker, "s", None, None)
        self.check_part("name", Road, "S", "A", "A", None, None)
        self.check_part("name", Road, "S", "a", "b", None, None)
        self.check_part("end", Road, "s", "a", "A", None, None)
        self.check_part("end", Road, "s", None, "a", True)
        self.check_part("same", Road, "s", "a", "a", None, None)
        self.check_part("same", Road, "s", "a", "a", 0, True)


if __name__ == "__main__":
    unittest.main()
