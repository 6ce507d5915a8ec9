"""signtown/works.py: rows of drawn deeds, some refused, with steps back between them, beside a plain table."""

import random
import unittest

from signtown.errors import (
    BadNeed, BadSigns, BadTown, Empty, NoCorner, NoDeed, NoRoad, NoSign, NoSigns, NoStreet, NotAlong, TooMany, Unlike)
from signtown.moves import Turn
from signtown.signs import Signs
from signtown.streets import Avenue, Lane, Road, Street
from signtown.towns import Town
from signtown.works import Works
from some_towns import LETTERS, complete, drawn_street, many_streets, mixed, ring_of, triangle
from values import Case, all_values, no_names, shown, values_but


class Refusal(Exception):
    """What the table tells of a deed that must be refused."""

    def __init__(self, error, fields):
        super().__init__(error, fields)
        self.error = error
        self.fields = fields


class Table:
    """A plain table of streets and of the pairs of given signs, a need, and copies of what was ahead of each deed."""

    def __init__(self, town, need):
        self.streets = {street.name: street for street in town}
        self.given = {}
        self.need = need
        self.past = []

    def keep(self, word):
        self.past.append((word, dict(self.streets), dict(self.given), self.need))

    def put(self, street):
        streets = {**self.streets, street.name: street}
        corners = {corner for other in streets.values() for corner in other.ends}
        if len(corners) > 7:
            raise Refusal(TooMany, {"what": "corners", "most": 7})
        if len(streets) > 14:
            raise Refusal(TooMany, {"what": "streets", "most": 14})
        self.keep("put")
        if type(street) is not Road or sorted(self.given.get(street.name, ())) != list(street.ends):
            self.given.pop(street.name, None)
        self.streets = streets
        return len(streets)

    def shut(self, name):
        if name not in self.streets:
            raise Refusal(NoStreet, {"name": name})
        self.keep("shut")
        self.given.pop(name, None)
        return self.streets.pop(name)

    def sign(self, name, goal):
        road = self.streets.get(name)
        if type(road) is not Road:
            raise Refusal(NoRoad, {"name": name})
        if goal not in road.ends:
            raise Refusal(NoCorner, {"name": goal})
        self.keep("sign")
        self.given[name] = (road.one, goal) if goal == road.other else (road.other, goal)

    def take(self, name):
        if name not in self.given:
            raise Refusal(NoSign, {"name": name})
        self.keep("take")
        return self.given.pop(name)[1]

    def give(self, signs):
        for name in sorted(signs.parts):
            if type(self.streets.get(name)) is not Road:
                raise Refusal(NoRoad, {"name": name})
        for name, pair in sorted(signs.parts.items()):
            if sorted(pair) != list(self.streets[name].ends) or self.given.get(name, pair) != pair:
                raise Refusal(Unlike, {"part": name})
        self.keep("give")
        self.given.update(signs.parts)

    def turn(self, turn):
        at = turn.start
        for name in turn.names:
            if name not in self.given or self.given[name][0] != at:
                raise Refusal(NotAlong, {"name": name})
            at = self.given[name][1]
        if at != turn.goal:
            raise Refusal(NotAlong, {"name": turn.names[-1]})
        self.keep("turn")
        for name in turn.names:
            self.given[name] = self.given[name][::-1]

    def set_need(self, need):
        if type(need) is not int or not 1 <= need <= 20:
            raise Refusal(BadNeed, {"value": need})
        self.keep("need")
        self.need = need

    def fill(self, parts):
        self.keep("fill")
        many = len(parts) - len(self.given)
        self.given = dict(parts)
        return many

    def undo(self):
        if not self.past:
            raise Refusal(NoDeed, {})
        word, self.streets, self.given, self.need = self.past.pop()
        return word


class DeedsCase(Case):
    def check_like(self, works, table):
        """The works are as the table tells."""
        self.assertEqual(Town(*table.streets.values()), works.town)
        self.assertEqual(table.given, works.given.parts)
        self.check_same(table.need, works.need)
        self.check_same(len(table.past), works.deeds)
        self.check_same(len(table.given), len(works))
        roads = [name for name, street in table.streets.items() if type(street) is Road]
        self.assertEqual(tuple(sorted(set(roads) - set(table.given))), works.left)

    def check_deed(self, works, table, call, model, *values):
        """The deed does and tells what the table's does; a refused one changes nothing."""
        before = shown(works)
        try:
            wanted = model(*values)
        except Refusal as refusal:
            self.check_raises(refusal.error, refusal.fields, call, *values)
            self.assertEqual(before, shown(works))
            return False
        self.check_same(wanted, call(*values))
        self.check_like(works, table)
        return True

    def check_back(self, works, table):
        """All deeds are taken back, down to the first one."""
        while table.past:
            self.check_deed(works, table, works.undo, table.undo)
        self.check_raises(NoDeed, {}, works.undo)
        self.check_like(works, table)


class Drawer:
    """Draws deeds for a table; the share of the names that it knows is as told."""

    def __init__(self, seed, names, corners, share):
        self.draw = random.Random(seed)
        self.names = names
        self.corners = corners
        self.share = share

    def name(self, names):
        if names and self.draw.random() < self.share:
            return self.draw.choice(sorted(names))
        return self.draw.choice(self.names)

    def street(self, table):
        street = drawn_street(self.draw, self.name(table.streets), self.corners, (Road, Road, Lane, Avenue), 1)
        old = table.streets.get(street.name)
        if old is not None and self.draw.random() < 0.5:
            return Road(old.name, *old.ends, 9, -9)
        return street

    def roads(self, table):
        return [name for name, street in table.streets.items() if type(street) is Road]

    def sign(self, table):
        name = self.name(self.roads(table))
        ends = table.streets[name].ends if name in table.streets else self.corners
        return name, self.draw.choice(ends if self.draw.random() < 0.9 else self.corners)

    def signs(self, table):
        parts = {}
        for name in self.draw.sample(self.roads(table), self.draw.randint(0, len(self.roads(table)))):
            pair = table.given.get(name) or self.draw.sample(table.streets[name].ends, 2)
            parts[name] = tuple(pair if self.draw.random() < 0.9 else pair[::-1])
        if self.draw.random() < 0.1:
            parts[self.draw.choice(self.names)] = tuple(self.draw.sample(self.corners, 2))
        return Signs(parts)

    def turn(self, table):
        names, at = [], self.draw.choice(self.corners)
        start = at
        while True:
            onward = [name for name, pair in table.given.items() if pair[0] == at and name not in names]
            if not onward or (names and self.draw.random() < 0.4):
                break
            names.append(self.draw.choice(onward))
            at = table.given[names[-1]][1]
        if not names or self.draw.random() < 0.1:
            names = names + [self.draw.choice([name for name in self.names if name not in names])]
        return Turn(tuple(names), start, at if self.draw.random() < 0.9 else self.draw.choice(self.corners))


class DrawnTest(DeedsCase):
    def check_drawn(self, works, table, drawer, word):
        """One drawn deed; whether it was done."""
        if word == "put":
            return self.check_deed(works, table, works.put, table.put, drawer.street(table))
        if word == "shut":
            return self.check_deed(works, table, works.shut, table.shut, drawer.name(table.streets))
        if word == "sign":
            return self.check_deed(works, table, works.__setitem__, table.sign, *drawer.sign(table))
        if word == "take":
            return self.check_deed(works, table, works.take, table.take, drawer.name(table.given))
        if word == "give":
            return self.check_deed(works, table, works.give, table.give, drawer.signs(table))
        if word == "turn":
            return self.check_deed(works, table, works.turn_about, table.turn, drawer.turn(table))
        if word == "need":
            need = drawer.draw.choice([0, 1, 1, 2, 3, 21])
            return self.check_deed(works, table, works.set_need, table.set_need, need)
        if word == "undo":
            return self.check_deed(works, table, works.undo, table.undo)
        return self.check_fill(works, table)

    def check_fill(self, works, table):
        before = shown(works)
        try:
            parts = works.finished().parts
        except (Empty, NoSigns) as error:
            self.check_raises(type(error), {}, works.fill)
            self.assertEqual(before, shown(works))
            return False
        self.assertTrue(table.given.items() <= parts.items())
        return self.check_deed(works, table, works.fill, lambda: table.fill(parts))

    def check_history(self, town, drawer, puts, many):
        """A row of drawn deeds; how many of each word were done and refused."""
        works, table = Works(town), Table(town, 1)
        words = ["put"] * puts + ["shut", "sign", "sign", "sign", "take", "give", "give", "turn", "turn", "need",
                                  "fill", "undo", "undo", "undo"]
        found = {}
        for _ in range(many):
            word = drawer.draw.choice(words)
            done = self.check_drawn(works, table, drawer, word)
            found[word, done] = found.get((word, done), 0) + 1
        self.check_back(works, table)
        self.assertEqual(town, works.town)
        return found

    def test_small_works(self):
        many = {}
        for seed in range(12):
            town = [Town(), triangle(), mixed(), complete(4)][seed % 4]
            for key, times in self.check_history(town, Drawer(seed, "rstuefgh", "abcd", 0.8), 2, 150).items():
                many[key] = many.get(key, 0) + times
        self.assertEqual(9, len({word for word, done in many if done}))
        self.assertGreaterEqual(len({word for word, done in many if not done}), 8)
        self.assertGreater(min(times for (_, done), times in many.items() if done), 10)

    def test_full_works(self):
        many = {}
        for seed in range(4):
            town = Town(*many_streets(13)) if seed % 2 else ring_of(6) | Road("x", "a", "d")
            for key, times in self.check_history(town, Drawer(seed, LETTERS, "abcdefgh", 0.4), 9, 150).items():
                many[key] = many.get(key, 0) + times
        self.assertGreater(many["put", False], 10)


class PutTest(DeedsCase):
    def check_put(self, town, given, street, stays):
        works, table = Works(town), Table(town, 1)
        for name, goal in given:
            self.check_deed(works, table, works.__setitem__, table.sign, name, goal)
        self.check_deed(works, table, works.put, table.put, street)
        self.assertIs(stays, street.name in works)
        self.assertEqual(str(street), str(works.town[street.name]))
        self.check_back(works, table)

    def test_in_the_place_of_a_street(self):
        for given in ([("r", "a")], [("r", "b"), ("t", "a")]):
            self.check_put(triangle(), given, Road("r", "b", "a", 7, 9), True)
            self.check_put(triangle(), given, Road("r", "a", "b", 5, 0), True)
            self.check_put(triangle(), given, Road("r", "a", "c"), False)
            self.check_put(triangle(), given, Road("r", "y", "z"), False)
            self.check_put(triangle(), given, Lane("r", "a", "b"), False)
            self.check_put(triangle(), given, Avenue("r", "a", "b"), False)
            self.check_put(triangle(), given, Road("q", "a", "b"), False)

    def test_corners_go_with_their_last_street(self):
        works = Works(Town(Road("r", "a", "b"), Road("s", "c", "d")))
        self.assertEqual(2, works.put(Road("s", "a", "b")))
        self.assertEqual(("a", "b"), works.town.corners)
        self.assertEqual(["road s a b 0 0", ("a", "b")], [str(works.shut("s")), works.town.corners])

    def test_full_works(self):
        full = ring_of(7) | Town(*[Lane(name, "a", "b") for name in LETTERS[7:14]])
        self.assertEqual([7, 14], [len(full.corners), len(full)])
        works, table = Works(full), Table(full, 1)
        for street in (Road("z", "y", "z"), Road("z", "a", "z"), Road("z", "a", "c"), Road("h", "a", "z"),
                       Road("h", "c", "g"), Road("z", "b", "a"), Lane("a", "x", "b"), Avenue("b", "e", "f")):
            self.check_deed(works, table, works.put, table.put, street)
        self.check_raises(TooMany, {"what": "corners", "most": 7}, works.put, Road("z", "a", "z"))
        self.check_raises(TooMany, {"what": "streets", "most": 14}, works.put, Road("z", "a", "c"))
        self.check_back(works, table)

    def test_the_one_in_whose_place_it_comes_does_not_count(self):
        town = ring_of(6) | Road("x", "a", "z")
        works, table = Works(town), Table(town, 1)
        for street in (Road("x", "a", "y"), Road("x", "b", "w"), Road("x", "u", "w"), Lane("v", "u", "a"),
                       Road("x", "a", "b"), Lane("v", "u", "w"), Lane("v", "u", "a")):
            self.check_deed(works, table, works.put, table.put, street)
        self.check_back(works, table)

    def test_no_street(self):
        for works in (Works(Town()), Works(triangle())):
            for value in values_but(Street):
                before = shown(works)
                self.check_refused([value], BadTown, {"part": "street"}, works.put, value)
                self.assertEqual(before, shown(works))


class DeedTest(DeedsCase):
    def test_a_deed_that_changes_nothing_is_a_deed(self):
        works = Works(triangle(), 2)
        works["r"] = "a"
        before = works.twin()
        works["r"] = "a"
        works.set_need(2)
        works.need = 2
        works.put(triangle()["s"])
        works.give(Signs.none())
        works.give(Signs({"r": ("b", "a")}))
        works |= Signs.none()
        self.assertEqual([8, before], [works.deeds, works])
        words = [works.undo() for _ in range(8)]
        self.assertEqual(["give", "give", "give", "put", "need", "need", "sign", "sign"], words)
        self.assertEqual([0, Signs.none()], [works.deeds, works.given])

    def test_words(self):
        works = Works(triangle())
        works.put(Lane("l", "a", "b"))
        works.shut("l")
        works["r"] = "b"
        works.take("r")
        works.give(Signs({"r": ("b", "a")}))
        works ^= Turn(("r",), "b", "a")
        works.need = 1
        self.assertEqual(2, works.fill())
        self.assertEqual(0, works.fill())
        self.assertEqual(9, works.deeds)
        self.assertEqual(["fill", "fill", "need", "turn", "give", "take", "sign", "shut", "put"],
                         [works.undo() for _ in range(9)])
        self.check_raises(NoDeed, {}, works.undo)
        self.check_equal(Works(triangle()), works)

    def test_what_deeds_return(self):
        works = Works(triangle())
        self.assertIsNone(works.__setitem__("r", "a"))
        for found in (works.set_need(3), works.give(Signs.none()), works.turn_about(Turn(("r",), "b", "a"))):
            self.assertIsNone(found)
        self.check_same("b", works.take("r"))
        self.check_same(triangle()["t"], works.shut("t"))
        self.check_same(2, works.put(triangle()["s"]))

    def test_needs(self):
        works = Works(triangle())
        for value in all_values():
            if type(value) is not int or not 1 <= value <= 20:
                before = shown(works)
                self.check_refused([value], BadNeed, {"value": value}, works.set_need, value)
                self.check_refused([value], BadNeed, {"value": value}, setattr, works, "need", value)
                self.assertEqual(before, shown(works))
        for need in (20, 1, 7):
            works.need = need
            self.check_same(need, works.need)

    def test_names_of_all_kinds_of_values(self):
        works = Works(triangle() | Lane("l", "a", "b") | Avenue("x", "a", "b"))
        works["s"] = "b"
        for value in no_names() + ["a", "b", "z"]:
            before = shown(works)
            self.check_refused([value], NoStreet, {"name": value}, works.shut, value)
            self.check_refused([value], NoSign, {"name": value}, works.take, value)
            for goal in ("a", None):
                self.check_refused([value], NoRoad, {"name": value}, works.__setitem__, value, goal)
            if value not in ("a", "b"):
                self.check_refused([value], NoCorner, {"name": value}, works.__setitem__, "r", value)
            self.assertEqual(before, shown(works))
        for name in ("l", "x"):
            self.check_raises(NoRoad, {"name": name}, works.__setitem__, name, "a")
            self.check_raises(NoSign, {"name": name}, works.take, name)
        self.check_raises(NoCorner, {"name": "c"}, works.__setitem__, "r", "c")
        self.check_raises(NoSign, {"name": "r"}, works.take, "r")


class GivenTogetherTest(DeedsCase):
    def test_all_or_none(self):
        works = Works(triangle() | Lane("l", "a", "b"))
        works["s"] = "c"
        right = {"r": ("a", "b"), "s": ("b", "c"), "t": ("c", "a")}
        for parts, error, fields in (
                ({**right, "z": ("a", "b"), "m": ("a", "b")}, NoRoad, {"name": "m"}),
                ({**right, "l": ("a", "b")}, NoRoad, {"name": "l"}),
                ({**right, "z": ("a", "b"), "r": ("a", "z")}, NoRoad, {"name": "z"}),
                ({**right, "s": ("c", "b")}, Unlike, {"part": "s"}),
                ({**right, "s": ("c", "b"), "t": ("z", "a")}, Unlike, {"part": "s"}),
                ({**right, "s": ("c", "b"), "r": ("a", "c")}, Unlike, {"part": "r"}),
                ({**right, "t": ("b", "a")}, Unlike, {"part": "t"})):
            before = shown(works)
            self.check_raises(error, fields, works.give, Signs(parts))
            with self.assertRaises(error):
                works |= Signs(parts)
            self.assertEqual(before, shown(works))
        works.give(signs=Signs(right))
        self.assertEqual([right, 2], [works.given.parts, works.deeds])

    def test_the_very_works_are_changed(self):
        works = same = Works(triangle())
        works |= Signs({"r": ("a", "b"), "s": ("b", "c")})
        self.assertIs(same, works)
        self.assertEqual(("r", "s"), same.given.names)
        works ^= Turn(("r", "s"), "a", "c")
        self.assertIs(same, works)
        self.assertEqual({"r": ("b", "a"), "s": ("c", "b")}, same.given.parts)
        works.turn_about(walk=Turn(("s",), "c", "b"))
        self.assertEqual([{"r": ("b", "a"), "s": ("b", "c")}, 3], [same.given.parts, same.deeds])

    def test_no_signs_and_no_turn(self):
        works = Works(triangle())
        works["r"] = "a"

        def give_in_place(value):
            told = works
            told |= value

        def turn_in_place(value):
            told = works
            told ^= value
        before = shown(works)
        for value in values_but(Signs):
            self.check_refused([value], BadSigns, {"part": "signs"}, works.give, value)
            self.check_refused([value], BadSigns, {"part": "signs"}, give_in_place, value)
        for value in values_but(Turn):
            self.check_refused([value], BadSigns, {"part": "turn"}, works.turn_about, value)
            self.check_refused([value], BadSigns, {"part": "turn"}, turn_in_place, value)
        self.assertEqual(before, shown(works))

    def test_not_along(self):
        works = Works(triangle())
        works.give(Signs({"r": ("a", "b"), "s": ("b", "c")}))
        before = shown(works)
        for names, start, goal, wrong in (
                (("r", "s"), "a", "b", "s"), (("s", "r"), "b", "b", "r"), (("r", "t"), "a", "a", "t"),
                (("t",), "c", "a", "t"), (("z", "r"), "a", "b", "z"), (("r",), "b", "a", "r"), (("s",), "a", "c", "s"),
                (("r", "s"), "z", "c", "r"), (("r", "s"), "a", "z", "s")):
            for call in (works.turn_about, works.__ixor__):
                self.check_raises(NotAlong, {"name": wrong}, call, Turn(names, start, goal))
        self.assertEqual(before, shown(works))


if __name__ == "__main__":
    unittest.main()
