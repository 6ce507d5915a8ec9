"""The examples of the document, one test for each module."""

import unittest

from signtown.errors import BadStreet, BadText
from signtown.streets import Avenue, Even, Lane, Road, Settled, Street
from values import Case


class StreetsTest(Case):
    def test_examples(self):
        r, s, t = Road("r", "b", "a", 5, 0), Road("s", "b", "c", 0, 5), Road("t", "a", "c", back=5)
        self.assertEqual(
            [str(r), r.one, r.price("a"), r.far("a"), str(~r), str(r.signed("b")), "c" in r,
             r == Road("r", "a", "b", 0, 5)],
            ["road r a b 0 5", "a", 5, "b", "road r a b 5 0", "lane r a b", False, True])
        lane, avenue = Lane("q", "b", "a"), Avenue("p", "b", "a")
        self.assertEqual(
            [str(~lane), lane.leads("b"), avenue.leads("b"), r.leads("b"), str(avenue), isinstance(avenue, Even),
             isinstance(lane, Even)],
            ["lane q a b", False, True, False, "avenue p a b", True, False])
        self.assertEqual(
            [str(r.priced(back=-2)), str(lane.opened()), Street.read("lane q b a") == lane],
            ["road r a b 0 -2", "avenue q a b", True])
        self.assertEqual([True, False], [isinstance(lane, Settled), isinstance(r, Settled)])
        self.assertEqual(["road s b c 0 5", "road t a c 0 5"], [str(s), str(t)])
        self.check_raises(BadStreet, {"part": "same"}, Road, "r", "a", "a", None)
        self.check_raises(BadText, {"line": 0, "word": 0}, Road.read, "lane q b a")
        self.check_raises(BadText, {"line": 0, "word": 3}, Street.read, "road r b a 0 0")
        self.check_raises(BadText, {"line": 0, "word": 3}, Street.read, "avenue p a")
        self.check_raises(BadText, {"line": 0, "word": 4}, Street.read, "road r a b 01 0")


if __name__ == "__main__":
    unittest.main()
