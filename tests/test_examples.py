"""The examples of the document, one test for each module."""

import unittest

from signtown.errors import BadSigns, BadStreet, BadText, BadWard, NoStreet, Unlike
from signtown.leads import in_counts, into, into_by_counts, settled_into, within
from signtown.signs import Signs
from signtown.streets import Avenue, Even, Lane, Road, Settled, Street
from signtown.towns import Town
from signtown.wards import Ward
from values import Case

R, S, T = Road("r", "b", "a", 5, 0), Road("s", "b", "c", 0, 5), Road("t", "a", "c", back=5)
LANE, AVENUE = Lane("q", "b", "a"), Avenue("p", "b", "a")
TRI = Town(T, R, S)
RING = Signs({"r": ("a", "b"), "s": ("b", "c"), "t": ("c", "a")})
CHEAP = Signs.cheap(TRI)
AB = Ward("a", "b")


class StreetsTest(Case):
    def test_examples(self):
        r, s, t = Road("r", "b", "a", 5, 0), Road("s", "b", "c", 0, 5), Road("t", "a", "c", back=5)
        self.assertEqual(
            [str(r), r.one, r.price("a"), r.far("a"), str(~r), str(r.signed("b")), "c" in r,
             r == Road("r", "a", "b", 0, 5)],
            ["road r a b 0 5", "a", 5, "b", "road r a b 5 0", "lane r a b", False, True])
        lane, avenue = Lane("q", "b", "a"), Avenue("p", "b", "a")
        self.assertEqual(
            [str(~lane), lane.leads("b"), avenue.leads("b"), r.leads("b"), str(avenue), isinstance(avenue, Even),
             isinstance(lane, Even)],
            ["lane q a b", False, True, False, "avenue p a b", True, False])
        self.assertEqual(
            [str(r.priced(back=-2)), str(lane.opened()), Street.read("lane q b a") == lane],
            ["road r a b 0 -2", "avenue q a b", True])
        self.assertEqual([True, False], [isinstance(lane, Settled), isinstance(r, Settled)])
        self.assertEqual(["road s b c 0 5", "road t a c 0 5"], [str(s), str(t)])
        self.check_raises(BadStreet, {"part": "same"}, Road, "r", "a", "a", None)
        self.check_raises(BadText, {"line": 0, "word": 0}, Road.read, "lane q b a")
        self.check_raises(BadText, {"line": 0, "word": 3}, Street.read, "road r b a 0 0")
        self.check_raises(BadText, {"line": 0, "word": 3}, Street.read, "avenue p a")
        self.check_raises(BadText, {"line": 0, "word": 4}, Street.read, "road r a b 01 0")


class WardsTest(Case):
    def test_examples(self):
        self.assertEqual(
            [str(Ward("b", "a", "b")), len(Ward("a")), str(Ward("a", "b") | Ward("c")), Ward("a") < Ward("a", "b"),
             [corner for corner in Ward("b", "a")]],
            ["a,b", 1, "a,b,c", True, ["a", "b"]])
        self.check_raises(BadWard, {"part": "none"}, lambda: Ward("a") & Ward("b"))
        self.check_raises(BadText, {"line": 0, "word": 0}, Ward.read, "b,a")


class TownsTest(Case):
    def test_examples(self):
        tri = TRI
        self.assertEqual(
            [tri.names, tri.corners, tri.is_plain, len(tri), str(tri["t"]), "a" in tri,
             [str(ward) for ward in tri.wards()]],
            [("r", "s", "t"), ("a", "b", "c"), True, 3, "road t a c 0 5", False,
             ["a", "b", "c", "a,b", "a,c", "b,c"]])
        self.assertEqual(
            [str((~tri)["r"]), (tri | LANE).names, (tri | LANE).is_plain, str(tri.opened("r")["r"]),
             tri.shut("r", "s").corners, tri - "r" <= tri],
            ["road r a b 5 0", ("q", "r", "s", "t"), False, "avenue r a b", ("a", "c"), True])
        self.assertEqual(
            [str(tri.priced("s", back=1)["s"]), str(tri.renamed({"a": "z"})["r"]), str(Ward("a", "c").rest(tri)),
             Ward("a", "b").crosses(Ward("b", "c"), tri)],
            ["road s b c 0 1", "road r b z 5 0", "b", False])
        self.check_raises(Unlike, {"part": "r"}, lambda: tri | Road("r", "a", "c"))
        self.check_raises(NoStreet, {"name": "x"}, tri.shut, "r", "x", None)


class SignsTest(Case):
    def test_examples(self):
        self.assertEqual(
            [RING["t"], RING.tail("t"), RING("a"), RING.names, RING.price(TRI), (~RING).price(TRI), CHEAP["t"],
             CHEAP.price(TRI), RING.fits(TRI - "r")],
            ["a", "c", 1, ("r", "s", "t"), 5, 10, "c", 0, False])
        self.assertEqual(
            [(RING & CHEAP).names, len(RING - "r"), CHEAP.turned("t") == RING,
             [str(street) for street in TRI.settled(RING & CHEAP)]],
            [("r", "s"), 2, True, ["lane r a b", "lane s b c", "road t a c 0 5"]])
        self.check_raises(Unlike, {"part": "t"}, lambda: RING | CHEAP)


class LeadsTest(Case):
    def test_examples(self):
        self.assertEqual(
            [into(TRI, RING, AB), into(TRI, CHEAP, AB), within(TRI, AB), settled_into(TRI | AVENUE, AB),
             settled_into(TRI | LANE, Ward("a")), settled_into(TRI | AVENUE, Ward("b"))],
            [1, 0, 1, 0, 1, 1])
        self.assertEqual(
            [in_counts(TRI, CHEAP)["c"], into_by_counts(TRI, {"a": 0, "b": 1, "c": 2}, AB)],
            [2, 0])
        self.check_raises(BadSigns, {"part": "roads"}, into, TRI, RING - "r", AB)
        self.check_raises(BadWard, {"part": "town"}, into, TRI, RING, Ward("a", "z"))


if __name__ == "__main__":
    unittest.main()
