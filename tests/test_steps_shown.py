"""signtown/steps.py: shows_steps, with right rows and with rows of which a part is otherwise."""

import itertools
import random
import unittest

from signtown.moves import Turn
from signtown.signs import Signs
from signtown.steps import Step, shows_steps, steps
from signtown.streets import Road
from signtown.towns import Town
from by_definition import good_by_counts, in_counts_of
from plain_towns import ONE, PLAIN, RING, THREE
from some_towns import LETTERS, all_signs, drawn_rounds, ring_of, town_again, triangle
from test_steps import turned_about
from values import Case, all_values, values_but


def some_walk(draw, signs, start, goal, names):
    """A drawn walk along signs of these names from start to goal, which may come by there; None if there is none."""
    for _ in range(30):
        walk, at = [], start
        while True:
            onward = [name for name in names if name not in walk and signs.parts[name][0] == at]
            if not onward or (walk and at == goal and draw.random() < 0.5):
                break
            walk.append(draw.choice(onward))
            at = signs.parts[walk[-1]][1]
        if walk and at == goal:
            return tuple(walk)
    return None


def drawn_turn(draw, town, now, other, need):
    """A drawn turn from a corner that has too little to one that has too much, behind which signs are good."""
    one, two = in_counts_of(town, now), in_counts_of(town, other)
    pairs = [(start, goal) for start, goal in itertools.permutations(town.corners, 2)
             if one[start] < two[start] and one[goal] > two[goal]]
    for start, goal in draw.sample(pairs, len(pairs)):
        names = some_walk(draw, now, start, goal, town.names)
        if names and good_by_counts(town, turned_about(now, names), need):
            return Turn(names, start, goal)
    return None


def drawn_ring(draw, now, other):
    """A drawn ring of roads that have unlike signs; None if there is none left."""
    unlike = [name for name in now if now.parts[name] != other.parts[name]]
    while unlike:
        start = now.parts[draw.choice(unlike)][0]
        names = some_walk(draw, now, start, start, unlike)
        if names:
            return Turn(names, start, start)
    return None


def row_of(signs, turns):
    """The steps of these turns, with the signs that they make."""
    row = []
    for turn in turns:
        signs = turned_about(signs, turn.names)
        row.append(Step(turn, signs))
    return row


def drawn_row(draw, town, signs, other, need):
    """A right row that was found by drawing; None if it led nowhere."""
    turns, now = [], signs
    while in_counts_of(town, now) != in_counts_of(town, other):
        turn = drawn_turn(draw, town, now, other, need)
        if turn is None:
            return None
        turns.append(turn)
        now = turned_about(now, turn.names)
    while now != other:
        turns.append(drawn_ring(draw, now, other))
        now = turned_about(now, turns[-1].names)
    return row_of(signs, turns)


def some_rows():
    """Rows of a plain town, two signs of it, a need and steps between them, some of them drawn."""
    draw = random.Random(26)
    found = []
    for town, need, rows in PLAIN:
        for signs, other in itertools.product(rows[:3], repeat=2):
            found.append((town, signs, other, need, list(steps(town, signs, other, need))))
            for _ in range(2):
                row = drawn_row(draw, town, signs, other, need)
                found += [] if row is None else [(town, signs, other, need, row)]
    return found


ROWS = some_rows()
SAMPLE = random.Random(28).sample(ROWS, 150)


class RightTest(Case):
    def test_as_a_list_and_as_a_tuple(self):
        for town, signs, other, need, row in ROWS:
            self.assertIs(True, self.check_stays([town, row], shows_steps, town, signs, other, need, row))
            self.assertIs(True, shows_steps(town, signs, other, need, tuple(row)))
            again = [Step(Turn(step.turn.names, step.turn.start, step.turn.goal), Signs(step.signs.parts))
                     for step in row]
            self.assertIs(True, shows_steps(town_again(town), signs, other, need, again))

    def test_there_are_rows_of_many_kinds(self):
        lengths = [len(row) for _, _, _, _, row in ROWS]
        self.assertGreater(len(ROWS), 200)
        self.assertGreaterEqual(max(lengths), 4)
        self.assertTrue([row for town, signs, other, need, row in ROWS if row != list(steps(town, signs, other, need))])

    def test_nothing_to_do(self):
        for value in ([], ()):
            self.assertIs(True, shows_steps(triangle(), RING, RING, 1, value))
            self.assertIs(False, shows_steps(triangle(), RING, ~RING, 1, value))

    def test_a_ring_that_passes_a_corner_twice(self):
        town = Town(Road("a", "a", "b"), Road("b", "b", "c"), Road("c", "c", "a"),
                    Road("d", "a", "d"), Road("e", "d", "e"), Road("f", "e", "a"))
        signs = Signs({"a": ("a", "b"), "b": ("b", "c"), "c": ("c", "a"),
                       "d": ("a", "d"), "e": ("d", "e"), "f": ("e", "a")})
        for names in ("abcdef", "defabc"):
            self.assertIs(True, shows_steps(town, signs, ~signs, 1, row_of(signs, [Turn(tuple(names), "a", "a")])))
        for turns in (("abc", "def"), ("def", "abc")):
            row = row_of(signs, [Turn(tuple(names), "a", "a") for names in turns])
            self.assertIs(True, shows_steps(town, signs, ~signs, 1, row))
        row = row_of(signs, [Turn(tuple("bcdefa"), "b", "b")])
        self.assertIs(True, shows_steps(town, signs, ~signs, 1, row))


class WrongTest(Case):
    def check_wrong(self, rows):
        """No changed row shows anything; there are some of them."""
        many = 0
        for town, signs, other, need, value in rows:
            many += 1
            self.assertIs(False, self.check_stays([value], shows_steps, town, signs, other, need, value))
        self.assertGreater(many, 20)

    def changed(self, change):
        """Rows with what the change makes of their steps at each place."""
        for town, signs, other, need, row in SAMPLE:
            for at in range(len(row)):
                for value in change(row, at):
                    yield town, signs, other, need, value

    def test_a_step_less(self):
        self.check_wrong(self.changed(lambda row, at: [row[:at] + row[at + 1:], row[:at]]))

    def test_a_step_twice(self):
        self.check_wrong(self.changed(lambda row, at: [row[:at] + [row[at]] + row[at:], row + [row[at]]]))

    def test_two_exchanged(self):
        def exchanged(row, at):
            return [row[:at] + [row[at + 1], row[at]] + row[at + 2:]] if at + 1 < len(row) else []
        self.check_wrong(self.changed(exchanged))

    def test_turns_with_other_parts(self):
        def otherwise(row, at):
            turn, signs = row[at].turn, row[at].signs
            turns = [Turn(turn.names, "zz", turn.goal), Turn(turn.names, turn.start, "zz"), ~turn,
                     Turn(turn.names + ("zz",), turn.start, turn.goal), Turn(("zz",), turn.start, turn.goal)]
            turns += [Turn(turn.names[1:], turn.start, turn.goal)] if len(turn) > 1 else []
            return [row[:at] + [Step(told, signs)] + row[at + 1:] for told in turns if told != turn]
        self.check_wrong(self.changed(otherwise))

    def test_signs_that_do_not_belong_to_the_turn(self):
        def otherwise(row, at):
            turn, signs = row[at].turn, row[at].signs
            told = [~signs, signs.turned(turn.names[0]), signs - turn.names[0], Signs.none(), signs.parts, None]
            return [row[:at] + [Step(turn, other)] + row[at + 1:] for other in told]
        self.check_wrong(self.changed(otherwise))

    def test_steps_of_other_kinds(self):
        def otherwise(row, at):
            turn, signs = row[at].turn, row[at].signs
            told = [None, turn, signs, (turn, signs), [turn, signs], Step(None, signs), Step(turn.names, signs),
                    Step((turn,), signs), Step(signs, turn), Step(True, True)]
            return [row[:at] + [other] + row[at + 1:] for other in told]
        self.check_wrong(self.changed(otherwise))

    def test_a_ring_ahead_of_a_turn_that_is_none(self):
        rows = []
        for town, signs, other, need, row in ROWS:
            turns = [step.turn for step in row]
            for at in range(1, len(turns)):
                if turns[at].is_ring and not turns[at - 1].is_ring:
                    mixed_up = turns[:at - 1] + [turns[at], turns[at - 1]] + turns[at + 1:]
                    if not set(turns[at].names) & set(turns[at - 1].names):
                        rows.append((town, signs, other, need, row_of(signs, mixed_up)))
        self.check_wrong(rows)

    def test_rings_that_share_a_road(self):
        rows = []
        for town, signs, other, need, row in ROWS:
            rings = [step.turn for step in row if step.turn.is_ring]
            for ring in rings:
                turns = [step.turn for step in row]
                rows.append((town, signs, other, need, row_of(signs, turns + [~ring, ring])))
        self.check_wrong(rows)

    def test_more_turns_than_need_be(self):
        rows = []
        for town, signs, other, need, row in ROWS:
            turns = [step.turn for step in row if not step.turn.is_ring]
            rings = [step.turn for step in row if step.turn.is_ring]
            if turns:
                rows.append((town, signs, other, need, row_of(signs, turns + [~turns[-1], turns[-1]] + rings)))
        self.check_wrong(rows)

    def test_a_ring_told_as_two_turns(self):
        town, signs = ring_of(4), next(signs for signs in all_signs(ring_of(4)) if good_by_counts(ring_of(4), signs, 1))
        ring = next(steps(town, signs, ~signs, 1)).turn
        halves = [Turn(ring.names[:2], ring.start, signs[ring.names[1]]),
                  Turn(ring.names[2:], signs[ring.names[1]], ring.start)]
        self.assertIs(False, shows_steps(town, signs, ~signs, 1, row_of(signs, halves)))

    def test_signs_between_that_are_not_good(self):
        draw = random.Random(27)
        rows = []
        pairs = [tuple("ab")] * 3 + [tuple("cd")] * 3 + [tuple("ac"), tuple("bd"), tuple("ad")]
        twins = Town(*[Road(name, *pair) for name, pair in zip(LETTERS, pairs)])
        for town, need in ((twins, 1), (drawn_rounds(draw, 4, 3, (Road,)), 2)):
            right = [signs for signs in all_signs(town) if good_by_counts(town, signs, need)]
            for signs in draw.sample(right, min(len(right), 20)):
                rows += self.ways_by_bad_signs(draw, town, signs, right, need)
        self.check_wrong(rows)

    def ways_by_bad_signs(self, draw, town, signs, right, need):
        """Rows of two turns, as few as can be, with signs between that are not good."""
        found = []
        for start, goal, third, last in itertools.product(town.corners, repeat=4):
            if {start, third} & {goal, last}:
                continue
            names = some_walk(draw, signs, start, goal, town.names)
            between = turned_about(signs, names) if names else None
            more = some_walk(draw, between, third, last, town.names) if names else None
            other = turned_about(between, more) if more else None
            if more and not good_by_counts(town, between, need) and good_by_counts(town, other, need):
                turns = [Turn(names, start, goal), Turn(more, third, last)]
                found.append((town, signs, other, need, row_of(signs, turns)))
        return found


class ValuesTest(Case):
    def test_values_of_all_kinds(self):
        for value in all_values():
            wanted = value in ([], ()) and isinstance(value, (list, tuple))
            self.assertIs(wanted, self.check_stays([value], shows_steps, triangle(), RING, RING, 1, value))
            self.assertIs(False, shows_steps(triangle(), RING, ~RING, 1, value))
            self.assertIs(False, shows_steps(THREE, ONE, ~ONE, 1, value))
            self.assertIs(False, shows_steps(THREE, ONE, ~ONE, 1, [value]))
            self.assertIs(False, shows_steps(THREE, ONE, ~ONE, 1, (Step(value, ~ONE),)))

    def test_signs_and_turns_of_all_kinds_of_values(self):
        right = list(steps(THREE, ONE, ~ONE, 1))
        for value in values_but(Turn):
            self.assertIs(False, shows_steps(THREE, ONE, ~ONE, 1, [Step(value, right[0].signs), *right[1:]]))
        for value in values_but(Signs):
            self.assertIs(False, shows_steps(THREE, ONE, ~ONE, 1, [Step(right[0].turn, value), *right[1:]]))

    def test_other_containers(self):
        right = list(steps(THREE, ONE, ~ONE, 1))
        for value in ({0: right[0]}, dict(enumerate(right)), iter(right), right[0], [right], (tuple(right),)):
            self.assertIs(False, shows_steps(THREE, ONE, ~ONE, 1, value))

    def test_equal_steps(self):
        turn = Turn(("r",), "a", "b")
        self.check_equal(Step(turn, RING), Step(signs=RING, turn=Turn(("r",), "a", "b")))
        for other in (Step(turn, ~RING), Step(~turn, RING), Step(RING, turn), (turn, RING), turn, None):
            self.check_unlike(Step(turn, RING), other)


if __name__ == "__main__":
    unittest.main()
