"""The examples of the document, one test for each module."""

import unittest

from signtown.best import Best, Never, cheapest
from signtown.counts import count_span, counted, signs_of
from signtown.errors import (
    BadSigns, BadStreet, BadText, BadWard, BadWeights, NoStreet, NotAlong, NotGood, Unlike)
from signtown.judge import judge, shows_verdict, strength
from signtown.leads import in_counts, into, into_by_counts, settled_into, within
from signtown.lookers import Looker
from signtown.moves import Turn, exchange, move
from signtown.narrow import narrow_around, narrow_wards, turn_alone
from signtown.signs import Signs
from signtown.streets import Avenue, Even, Lane, Road, Settled, Street
from signtown.towns import Town
from signtown.wards import Ward
from signtown.ways import Bundle, Ways, bundle, is_walk, shows_ways, ways_of
from signtown.weights import Weights
from some_towns import all_signs
from values import Case

R, S, T = Road("r", "b", "a", 5, 0), Road("s", "b", "c", 0, 5), Road("t", "a", "c", back=5)
LANE, AVENUE = Lane("q", "b", "a"), Avenue("p", "b", "a")
TRI = Town(T, R, S)
RING = Signs({"r": ("a", "b"), "s": ("b", "c"), "t": ("c", "a")})
CHEAP = Signs.cheap(TRI)
AB = Ward("a", "b")
WIDE = TRI | AVENUE
WAYS = ways_of(TRI, RING, 1)
FIVE = Weights({("a",): 5})


class StreetsTest(Case):
    def test_examples(self):
        r, s, t = Road("r", "b", "a", 5, 0), Road("s", "b", "c", 0, 5), Road("t", "a", "c", back=5)
        self.assertEqual(
            [str(r), r.one, r.price("a"), r.far("a"), str(~r), str(r.signed("b")), "c" in r,
             r == Road("r", "a", "b", 0, 5)],
            ["road r a b 0 5", "a", 5, "b", "road r a b 5 0", "lane r a b", False, True])
        lane, avenue = Lane("q", "b", "a"), Avenue("p", "b", "a")
        self.assertEqual(
            [str(~lane), lane.leads("b"), avenue.leads("b"), r.leads("b"), str(avenue), isinstance(avenue, Even),
             isinstance(lane, Even)],
            ["lane q a b", False, True, False, "avenue p a b", True, False])
        self.assertEqual(
            [str(r.priced(back=-2)), str(lane.opened()), Street.read("lane q b a") == lane],
            ["road r a b 0 -2", "avenue q a b", True])
        self.assertEqual([True, False], [isinstance(lane, Settled), isinstance(r, Settled)])
        self.assertEqual(["road s b c 0 5", "road t a c 0 5"], [str(s), str(t)])
        self.check_raises(BadStreet, {"part": "same"}, Road, "r", "a", "a", None)
        self.check_raises(BadText, {"line": 0, "word": 0}, Road.read, "lane q b a")
        self.check_raises(BadText, {"line": 0, "word": 3}, Street.read, "road r b a 0 0")
        self.check_raises(BadText, {"line": 0, "word": 3}, Street.read, "avenue p a")
        self.check_raises(BadText, {"line": 0, "word": 4}, Street.read, "road r a b 01 0")


class WardsTest(Case):
    def test_examples(self):
        self.assertEqual(
            [str(Ward("b", "a", "b")), len(Ward("a")), str(Ward("a", "b") | Ward("c")), Ward("a") < Ward("a", "b"),
             [corner for corner in Ward("b", "a")]],
            ["a,b", 1, "a,b,c", True, ["a", "b"]])
        self.check_raises(BadWard, {"part": "none"}, lambda: Ward("a") & Ward("b"))
        self.check_raises(BadText, {"line": 0, "word": 0}, Ward.read, "b,a")


class TownsTest(Case):
    def test_examples(self):
        tri = TRI
        self.assertEqual(
            [tri.names, tri.corners, tri.is_plain, len(tri), str(tri["t"]), "a" in tri,
             [str(ward) for ward in tri.wards()]],
            [("r", "s", "t"), ("a", "b", "c"), True, 3, "road t a c 0 5", False,
             ["a", "b", "c", "a,b", "a,c", "b,c"]])
        self.assertEqual(
            [str((~tri)["r"]), (tri | LANE).names, (tri | LANE).is_plain, str(tri.opened("r")["r"]),
             tri.shut("r", "s").corners, tri - "r" <= tri],
            ["road r a b 5 0", ("q", "r", "s", "t"), False, "avenue r a b", ("a", "c"), True])
        self.assertEqual(
            [str(tri.priced("s", back=1)["s"]), str(tri.renamed({"a": "z"})["r"]), str(Ward("a", "c").rest(tri)),
             Ward("a", "b").crosses(Ward("b", "c"), tri)],
            ["road s b c 0 1", "road r b z 5 0", "b", False])
        self.check_raises(Unlike, {"part": "r"}, lambda: tri | Road("r", "a", "c"))
        self.check_raises(NoStreet, {"name": "x"}, tri.shut, "r", "x", None)


class SignsTest(Case):
    def test_examples(self):
        self.assertEqual(
            [RING["t"], RING.tail("t"), RING("a"), RING.names, RING.price(TRI), (~RING).price(TRI), CHEAP["t"],
             CHEAP.price(TRI), RING.fits(TRI - "r")],
            ["a", "c", 1, ("r", "s", "t"), 5, 10, "c", 0, False])
        self.assertEqual(
            [(RING & CHEAP).names, len(RING - "r"), CHEAP.turned("t") == RING,
             [str(street) for street in TRI.settled(RING & CHEAP)]],
            [("r", "s"), 2, True, ["lane r a b", "lane s b c", "road t a c 0 5"]])
        self.check_raises(Unlike, {"part": "t"}, lambda: RING | CHEAP)


class LeadsTest(Case):
    def test_examples(self):
        self.assertEqual(
            [into(TRI, RING, AB), into(TRI, CHEAP, AB), within(TRI, AB), settled_into(TRI | AVENUE, AB),
             settled_into(TRI | LANE, Ward("a")), settled_into(TRI | AVENUE, Ward("b"))],
            [1, 0, 1, 0, 1, 1])
        self.assertEqual(
            [in_counts(TRI, CHEAP)["c"], into_by_counts(TRI, {"a": 0, "b": 1, "c": 2}, AB)],
            [2, 0])
        self.check_raises(BadSigns, {"part": "roads"}, into, TRI, RING - "r", AB)
        self.check_raises(BadWard, {"part": "town"}, into, TRI, RING, Ward("a", "z"))


class JudgeTest(Case):
    def test_examples(self):
        self.assertEqual(
            [WAYS.root, WAYS.out["c"], WAYS.back["b"], shows_ways(TRI, RING, 1, WAYS),
             is_walk(TRI, RING, "a", "a", ("r", "s", "t"))],
            ["a", (("r", "s"),), (("s", "t"),), True, True])
        two = bundle(WIDE, RING, "a", "b")
        self.assertEqual(
            [sorted(two.walks), into(WIDE, RING, two.ward), len(two), len(bundle(WIDE, RING, "a", "c"))],
            [[("p",), ("r",)], 2, 2, 1])
        self.assertEqual(
            [bool(judge(TRI, RING, 1)), bool(judge(TRI, RING, 2)), into(TRI, CHEAP, judge(TRI, CHEAP, 1).ward),
             strength(TRI, RING).number, strength(TRI, CHEAP).ways],
            [True, False, 0, 1, None])
        self.check_raises(NotGood, {"need": 1}, ways_of, TRI, CHEAP, 1)
        self.assertEqual([Bundle, Ways], [type(two), type(WAYS)])
        self.assertIs(True, shows_verdict(TRI, CHEAP, 1, judge(TRI, CHEAP, 1)))


class NarrowTest(Case):
    def test_examples(self):
        self.assertEqual(
            [[str(ward) for ward in narrow_wards(WIDE, RING, 1)], str(narrow_around(WIDE, RING, 1, "c", "a")),
             narrow_around(WIDE, RING, 1, "a", "b")],
            [["c", "a,b"], "c", None])
        self.assertEqual(
            [turn_alone(WIDE, RING, 1, "r").signs["r"], bool(turn_alone(WIDE, RING, 1, "s"))], ["a", False])


class WeightsTest(Case):
    def test_examples(self):
        self.assertEqual(
            [FIVE.bound(TRI, 1), FIVE.excess(TRI, 1), FIVE("a"), FIVE.onto("b", "a"), FIVE.onto("a", "b"), FIVE[AB],
             (FIVE + 2 * FIVE)[Ward("a")]],
            [5, -5, 5, 5, 0, 0, 15])
        square = Town(Road("e", "a", "b"), Road("f", "b", "c"), Road("g", "c", "d"), Road("h", "a", "d"))
        both = Weights.of(AB) + Weights.of(Ward("b", "c"))
        self.assertEqual(
            [both.is_clear(square), both.is_clear(TRI), both.cleared(square).is_clear(square),
             both.cleared(square)("b"), both.bound(square, 1), both.cleared(square).bound(square, 1)],
            [False, True, True, 2, -2, -2])
        self.assertEqual(2, both.needs(square, 1))
        self.check_raises(BadWeights, {"part": "parts"}, Weights, {("a",): 0})


class BestTest(Case):
    def test_examples(self):
        best, never = cheapest(TRI, 1), cheapest(TRI, 2)
        self.assertEqual(
            [best.cost, best.signs == RING, best.weights.bound(TRI, 1), bool(never), never.weights.excess(TRI, 2) > 0],
            [5, True, 5, False, True])
        self.assertEqual(
            [cheapest(TRI | AVENUE, 1).cost, cheapest(TRI | Road("u", "a", "c", -3, -1), 1).cost,
             bool(cheapest(Town(R, S), 1))],
            [5, -1, False])
        self.assertEqual([Best, Never], [type(best), type(never)])


class LookersTest(Case):
    def test_examples(self):
        best, never, looker = cheapest(TRI, 1), cheapest(TRI, 2), Looker(TRI, 1)
        self.assertEqual(
            [looker(best), looker(never), looker.is_sound(RING, WAYS), looker.is_short(CHEAP, AB),
             looker.binds(FIVE, 5), looker.binds(FIVE, 6), looker.bars(FIVE)],
            [True, False, True, True, True, False, False])
        self.assertEqual(
            [looker(Best(5, RING, WAYS, FIVE)), looker(Best(5, RING, WAYS, Weights.none())),
             looker(Best(10, ~RING, WAYS, FIVE)), looker(None)],
            [True, False, False, False])


class CountsTest(Case):
    def test_examples(self):
        tie = Town(Road("k", "a", "b"), Road("l", "a", "v"), Road("m", "b", "v"), Road("n", "c", "d"),
                   Road("o", "c", "v"), Road("q", "d", "v"))
        self.assertEqual(
            [[span.least, span.most] for span in [count_span(tie, 1, "v"), count_span(tie, 1, "a")]], [[2, 2], [1, 1]])
        self.assertEqual(
            [bool(count_span(tie, 2, "v")), signs_of(TRI, {"a": 0, "b": 1, "c": 2}).signs == CHEAP,
             signs_of(TRI, {"a": 0, "b": 0, "c": 3}).corners, signs_of(TRI, {"a": 1, "b": 1, "c": 2}).corners],
            [False, True, ("a", "b"), ("a", "b", "c")])
        self.assertEqual("road l a v 1 0", str(counted(tie, "v")["l"]))


class MovesTest(Case):
    def test_examples(self):
        turn = Turn(("r", "s"), "a", "c")
        self.assertEqual(
            [turn(RING)["s"], [one.names == RING.names for one in turn.stages(RING)], (~turn)(turn(RING)) == RING,
             [name for name in ~turn], Turn(("r", "s", "t"), "a", "a").is_ring],
            ["b", [True, True], True, ["s", "r"], True])
        three = Town(Road("e", "a", "b"), Road("f", "a", "b"), Road("g", "a", "b"))
        one = Signs({"e": ("a", "b"), "f": ("a", "b"), "g": ("b", "a")})
        self.assertEqual(
            [str(move(three, one, 1, "b", "a").ward), move(three, one, 1, "a", "b").signs("a"),
             exchange(three, one, ~one, 1, "a").goal],
            ["a", 2, "b"])
        self.check_raises(NotAlong, {"name": "s"}, turn, CHEAP - "s")

    def test_exchange_can_fail_with_avenues(self):
        town = Town(Road("e", "a", "b"), Road("f", "c", "d"), Avenue("x", "b", "c"), Avenue("y", "a", "d"))
        good = [signs for signs in all_signs(town) if judge(town, signs, 1)]
        self.assertEqual(2, len(good))
        self.assertEqual([{"e": ("a", "b"), "f": ("c", "d")}, {"e": ("b", "a"), "f": ("d", "c")}],
                         sorted([signs.parts for signs in good], key=lambda parts: parts["e"]))
        self.check_raises(Unlike, {"part": "kinds"}, exchange, town, good[0], good[1], 1, "a")


if __name__ == "__main__":
    unittest.main()
