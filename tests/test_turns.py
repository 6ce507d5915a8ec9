"""signtown/moves.py: walks of roads that are turned."""

import itertools
import operator
import unittest

from signtown.errors import BadName, BadSigns, NotAlong
from signtown.moves import Turn
from signtown.signs import Signs
from some_towns import LETTERS, all_signs, complete
from by_definition import walks_along
from values import Case, all_values, no_names, values_but

RING = Signs({"r": ("a", "b"), "s": ("b", "c"), "t": ("c", "a")})
AROUND = Turn(("r", "s", "t"), "a", "a")


class MadeTest(Case):
    def test_what_a_turn_tells(self):
        for names, start, goal in ((("r",), "a", "b"), (("s", "r"), "b", "b"), (tuple(LETTERS), "zz", "abcdefgh"),
                                   (("abcdefgh", "a"), "r", "r")):
            turn = Turn(names, start, goal)
            self.assertEqual([names, start, goal, len(names)], [turn.names, turn.start, turn.goal, len(turn)])
            self.assertEqual(list(names), [name for name in turn])
            self.assertIs(start == goal, turn.is_ring)
            self.check_equal(turn, Turn(goal=goal, start=start, names=names))

    def test_turned_about(self):
        for turn in (AROUND, Turn(("r", "s"), "a", "c"), Turn(("s",), "b", "c")):
            back = self.check_stays(turn, operator.invert, turn)
            self.assertEqual([Turn, turn.names[::-1]], [type(back), back.names])
            self.assertEqual([turn.goal, turn.start], [back.start, back.goal])
            self.check_equal(turn, ~back)

    def test_equal_attributes(self):
        turn = Turn(("r", "s"), "a", "c")
        for other in (Turn(("s", "r"), "a", "c"), Turn(("r",), "a", "c"), Turn(("r", "s"), "b", "c"),
                      Turn(("r", "s"), "a", "b"), Turn(("r", "s", "t"), "a", "c"), ~turn):
            self.check_unlike(turn, other)
        for value in all_values() + [("r", "s"), ["r", "s"], ("a", "c"), vars(turn)]:
            self.check_unlike(turn, value)

    def test_wrong_names(self):
        for names in ((), ("r", "r"), ("r", "s", "r"), ["r"], "r", {"r": 1}, None, ("r", "S"), ("r", ""), (("r",),),
                      (1,), (True,), ("r", None), ("r", ["s"]), RING, AROUND, ("abcdefghi",)):
            for start, goal in (("a", "b"), (None, None), ("A", "b")):
                self.check_refused([names], BadSigns, {"part": "walk"}, Turn, names, start, goal)
        for value in all_values():
            if value not in (("a",), ("a", "b")):
                self.check_refused([value], BadSigns, {"part": "walk"}, Turn, value, value, "a")
        for value in no_names():
            self.check_refused([value], BadSigns, {"part": "walk"}, Turn, (value,), "a", "b")
            self.check_refused([value], BadSigns, {"part": "walk"}, Turn, ("r", value), value, value)

    def test_wrong_ends(self):
        for value in no_names():
            for other in ("a", None, value):
                self.check_refused([value], BadName, {"value": value}, Turn, ("r",), value, other)
            self.check_refused([value], BadName, {"value": value}, Turn, ("r",), "a", value)


class CallTest(Case):
    def check_turned(self, turn, signs, wanted):
        """The call gives these signs, stage by stage."""
        found = self.check_stays([turn, signs], turn, signs)
        self.assertEqual([Signs, wanted], [type(found), found.parts])
        stages = self.check_stays([turn, signs], lambda: list(turn.stages(signs)))
        now = signs.parts
        for name, stage in zip(turn.names, stages):
            now = {**now, name: now[name][::-1]}
            self.assertEqual([Signs, now], [type(stage), stage.parts])
        self.assertEqual([len(turn), found], [len(stages), stages[-1]])
        self.assertEqual(signs, (~turn)(found))

    def check_not_along(self, turn, signs, name):
        for call in (turn, lambda one: list(turn.stages(one)), lambda one: next(iter(turn.stages(one)))):
            self.check_refused([turn, signs], NotAlong, {"name": name}, call, signs)

    def test_all_short_walks(self):
        town = complete(4)
        for signs in all_signs(town)[::7]:
            for many in (1, 2, 3):
                for names in itertools.permutations([*town.names, "zz"], many):
                    for start, goal in (("a", "b"), ("c", "a"), ("d", "d"), ("a", "z")):
                        turn = Turn(names, start, goal)
                        if walks_along(town, signs, start, goal, names):
                            self.check_turned(turn, signs, {name: pair[::-1] if name in names else pair
                                                            for name, pair in signs.parts.items()})
                        else:
                            self.check_not_along(turn, signs, self.first_wrong(signs, turn))

    def first_wrong(self, signs, turn):
        """The first road that does not lead on, or the last one."""
        at = turn.start
        for name in turn.names:
            if name not in signs.parts or signs.parts[name][0] != at:
                return name
            at = signs.parts[name][1]
        return turn.names[-1]

    def test_plain_cases(self):
        self.check_turned(AROUND, RING, (~RING).parts)
        self.check_turned(Turn(("s",), "b", "c"), RING, RING.turned("s").parts)
        self.assertEqual(~RING, AROUND(signs=RING))
        self.assertEqual([RING.turned("r")], list(Turn(("r",), "a", "b").stages(signs=RING)))
        self.check_not_along(AROUND, ~RING, "r")
        self.check_not_along(AROUND, RING - "s", "s")
        self.check_not_along(AROUND, RING.turned("t"), "t")
        self.check_not_along(AROUND, Signs.none(), "r")
        self.check_not_along(Turn(("r", "s", "t"), "a", "b"), RING, "t")
        self.check_not_along(Turn(("r",), "a", "a"), RING, "r")
        self.check_not_along(Turn(("r", "t", "s"), "a", "c"), RING, "t")
        self.check_not_along(Turn(("s", "t"), "a", "a"), RING, "s")

    def test_signs_for_other_roads_stay(self):
        more = RING | Signs({"x": ("y", "z"), "y": ("a", "b")})
        self.check_turned(AROUND, more, {**more.parts, **(~RING).parts})

    def test_stages_are_a_generator(self):
        stages = AROUND.stages(RING)
        self.assertIs(iter(stages), iter(stages))
        self.assertEqual([RING.turned("r"), RING.turned("r", "s"), ~RING], list(stages))
        self.assertEqual([], list(stages))

    def test_no_signs(self):
        for value in values_but(Signs) + [RING.parts]:
            for turn in (AROUND, Turn(("zz",), "y", "z")):
                self.check_refused([turn, value], BadSigns, {"part": "signs"}, turn, value)
                self.check_refused([turn, value], BadSigns, {"part": "signs"}, lambda: next(iter(turn.stages(value))))


if __name__ == "__main__":
    unittest.main()
