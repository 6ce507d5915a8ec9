"""The whole program: arguments by their names in another order, and one history by calls, by lines and by texts."""

import unittest

from signtown import (
    best, choices, counts, desk, errors, greatest, judge, leads, lookers, moves, names, narrow, nearest, reader, signs,
    steps, streets, texts, towns, wards, ways, weights, works)
from plain_towns import ONE, RING, THREE
from some_towns import mixed, triangle
from values import Case, shown

TRI = triangle()
WIDE = TRI | streets.Avenue("p", "a", "b")
AB = wards.Ward("a", "b")
FIVE = weights.Weights({("a",): 5})
TURN = moves.Turn(("r", "s"), "a", "c")
BEST = best.cheapest(TRI, 1)
WAYS = ways.ways_of(TRI, RING, 1)
NEVER = best.cheapest(TRI, 2)
SIGN = {"town": TRI, "signs": RING}
PLAN = {"town": TRI, "signs": RING, "need": 1}
BOTH = {"town": THREE, "signs": ONE, "other": ~ONE, "need": 1}
LOOKER = lookers.Looker(TRI, 1)
CHOICE = choices.choice(TRI, 1, "t")


def listed(generator):
    """A function that makes a list of what the generator yields."""
    def call(*values, **named):
        return list(generator(*values, **named))
    return call


def rows_of_errors():
    fields = {
        "BadName": ["value"], "BadPrice": ["value"], "BadNeed": ["value"], "BadStreet": ["part"], "BadTown": ["part"],
        "BadWard": ["part"], "BadSigns": ["part"], "BadWeights": ["part"], "BadText": ["line", "word"],
        "BadLine": ["word"], "NoCorner": ["name"], "NoStreet": ["name"], "NoRoad": ["name"], "NoSign": ["name"],
        "NotAlong": ["name"], "Level": ["corner"], "Unlike": ["part"], "TooMany": ["what", "most"],
        "NotGood": ["need"], "Empty": [], "NoSigns": [], "NoDeed": [], "Barred": ["weights"],
    }
    return [(getattr(errors, name), dict(zip(told, ("x", 7)))) for name, told in fields.items()]


def rows_of_streets_and_wards():
    road, lane, avenue = TRI["t"], streets.Lane("q", "b", "a"), WIDE["p"]
    rows = [(call, {"value": value}) for call in (names.is_name, names.need_name, names.is_price, names.is_need)
            for value in ("a", 1, None)]
    rows += [(streets.Lane, {"name": "r", "start": "b", "goal": "a"}),
             (streets.Avenue, {"name": "r", "one": "b", "other": "a"}),
             (streets.Road, {"name": "r", "one": "b", "other": "a", "there": 1, "back": 2}),
             (streets.Road, {"name": "r", "one": "a", "other": "a", "there": None, "back": 2}),
             (road.price, {"goal": "a"}), (road.signed, {"goal": "a"})]
    for street in (road, lane, avenue):
        rows += [(street.far, {"corner": "a"}), (street.far, {"corner": "z"}), (street.leads, {"goal": "a"}),
                 (street.renamed, {"name": "z"}), (street.opened, {})]
    rows += [(kind.read, {"text": "lane q b a"}) for kind in (
        streets.Street, streets.Settled, streets.Even, streets.Lane, streets.Avenue, streets.Road)]
    return rows + [(AB.rest, {"town": TRI}), (AB.is_of, {"town": TRI}), (wards.Ward.read, {"text": "a,b"}),
                   (AB.crosses, {"other": wards.Ward("b"), "town": TRI}), (AB.crosses, {"other": None, "town": None})]


def rows_of_towns_and_signs():
    return [
        (TRI.settled, {"signs": RING}), (TRI.renamed, {"corners": {"a": "z"}}), (listed(TRI.wards), {}),
        (signs.Signs, {"parts": {"r": ("a", "b")}}), (RING.tail, {"name": "r"}), (RING, {"corner": "a"}),
        (RING.fits, {"town": TRI}), (RING.price, {"town": TRI}), (signs.Signs.cheap, {"town": TRI}),
        (signs.Signs.none, {}), (leads.into, {**SIGN, "ward": AB}), (leads.settled_into, {"town": WIDE, "ward": AB}),
        (leads.within, {"town": TRI, "ward": AB}), (leads.in_counts, SIGN),
        (leads.into_by_counts, {"town": TRI, "counts": {"a": 0, "b": 1, "c": 2}, "ward": AB}),
        (ways.is_walk, {**SIGN, "start": "a", "goal": "c", "walk": ("r", "s")}),
        (ways.bundle, {**SIGN, "start": "a", "goal": "c"}), (ways.Ways, {"root": 1, "out": 2, "back": 3}),
        (ways.Bundle, {"walks": (), "ward": AB}), (ways.ways_of, PLAN), (ways.shows_ways, {**PLAN, "value": WAYS}),
        (ways.shows_bundle, {**SIGN, "start": "a", "goal": "c", "value": ways.bundle(TRI, RING, "a", "c")}),
        (judge.judge, PLAN), (judge.Sound, {"ways": WAYS}), (judge.Short, {"ward": AB}), (judge.strength, SIGN),
        (judge.Strength, {"number": 1, "ward": AB, "ways": None}),
        (judge.shows_verdict, {**PLAN, "value": judge.judge(TRI, RING, 1)}),
        (judge.shows_strength, {**SIGN, "value": judge.strength(TRI, RING)}),
        (listed(narrow.narrow_wards), PLAN), (narrow.narrow_around, {**PLAN, "corner": "a", "other": "b"}),
        (narrow.turn_alone, {"town": WIDE, "signs": RING, "need": 1, "name": "r"}), (narrow.Tied, {"ward": AB}),
        (narrow.Turned, {"signs": RING, "ways": WAYS}),
    ]


def rows_of_answers():
    asked = {"town": TRI, "need": 1}
    return [
        (weights.Weights, {"parts": {("a",): 5}}), (weights.Weights.of, {"ward": AB, "number": 4}),
        (FIVE, {"corner": "a"}),
        (FIVE.onto, {"start": "b", "goal": "a"}), (FIVE.needs, asked), (FIVE.bound, asked), (FIVE.excess, asked),
        (FIVE.is_clear, {"town": TRI}), (FIVE.cleared, {"town": TRI}), (weights.Weights.none, {}),
        (best.cheapest, asked), (best.Best, {"cost": 1, "signs": 2, "ways": 3, "weights": 4}),
        (best.Never, {"weights": 5}),
        (lookers.Looker, asked), (LOOKER, {"answer": BEST}), (LOOKER.is_sound, {"signs": RING, "ways": WAYS}),
        (LOOKER.is_short, {"signs": RING.turned("t"), "ward": AB}), (LOOKER.binds, {"weights": FIVE, "price": 5}),
        (LOOKER.bars, {"weights": FIVE}), (counts.counted, {"town": TRI, "corner": "a", "by": 3}),
        (counts.count_span, {"town": TRI, "need": 1, "corner": "a"}),
        (counts.CountSpan, {"least": 1, "most": 2, "low": 3, "high": 4}), (counts.Counted, {"signs": RING}),
        (counts.Crowded, {"corners": ("a",)}), (counts.signs_of, {"town": TRI, "counts": {"a": 1, "b": 1, "c": 1}}),
        (moves.Turn, {"names": ("r",), "start": "a", "goal": "b"}), (TURN, {"signs": RING}),
        (listed(TURN.stages), {"signs": RING}), (moves.exchange, {**BOTH, "corner": "a"}),
        (moves.move, {"town": THREE, "signs": ONE, "need": 1, "start": "a", "goal": "b"}),
        (moves.Moved, {"turn": TURN, "signs": RING, "ways": WAYS}), (moves.Stuck, {"ward": AB}),
        (listed(steps.steps), BOTH), (steps.fewest_turns, {"town": THREE, "signs": ONE, "other": ~ONE}),
        (steps.shows_steps, {**BOTH, "value": list(steps.steps(**BOTH))}), (steps.Step, {"turn": TURN, "signs": RING}),
        (choices.choice, {**asked, "name": "t"}), (choices.Choice, {"name": "t", "one": BEST, "other": NEVER}),
        (CHOICE.price, {"town": TRI, "goal": "a"}), (CHOICE.gap, {"town": TRI}), (CHOICE.settles, {"town": TRI}),
        (choices.sure_signs, asked), (nearest.kept, SIGN),
        (nearest.nearest, {"town": TRI, "need": 1, "signs": RING - "r"}),
        (greatest.greatest, {"town": TRI}), (greatest.Greatest, {"number": 1, "best": BEST, "never": NEVER}),
        (greatest.shows_greatest, {"town": TRI, "value": greatest.greatest(TRI)}),
        (texts.town_text, {"town": TRI}), (texts.signs_text, {"signs": RING}), (texts.weights_text, {"weights": FIVE}),
        (texts.ways_text, {"ways": WAYS}), (texts.answer_text, {"answer": NEVER}),
        (texts.works_text, {"works": works.Works(TRI)}), (reader.read_town, {"text": texts.town_text(WIDE)}),
        (reader.read_signs, {"text": "signs"}), (reader.read_weights, {"text": "weights\nweight 5 a"}),
        (reader.read_ways, {"text": texts.ways_text(WAYS)}), (reader.read_answer, {"text": "never"}),
        (reader.read_works, {"text": "works 1"}), (works.Works, {"town": TRI, "need": 4}),
    ]


# Methods that change their object: each is called of objects made anew.
DEEDS = [
    (works.Works.set_need, {"need": 3}), (works.Works.put, {"street": streets.Lane("l", "a", "b")}),
    (works.Works.shut, {"name": "s"}), (works.Works.take, {"name": "r"}), (works.Works.give, {"signs": RING - "r"}),
    (works.Works.turn_about, {"walk": moves.Turn(("r",), "a", "b")}), (works.Works.answer, {}),
    (works.Works.finished, {}), (works.Works.price, {}), (works.Works.fill, {}), (works.Works.judge, {}),
    (works.Works.undo, {}), (works.Works.tried_by, {"work": lambda same: same.fill()}),
    (works.Works.attempt, {"work": lambda same: same.fill()}), (works.Works.twin, {}),
]


def told(call, values, named):
    """All that a call tells: what it returns, or the error that it raises."""
    try:
        return shown(call(*values, **named))
    except errors.TownError as error:
        return ["raises", type(error).__name__, shown(vars(error))]


def turned_round(arguments):
    return {name: arguments[name] for name in list(arguments)[::-1]}


class NamesTest(Case):
    def check_row(self, call, arguments):
        before = shown(arguments)
        wanted = told(call, arguments.values(), {})
        self.assertEqual(wanted, told(call, (), turned_round(arguments)))
        self.assertEqual(wanted, told(call, (), arguments))
        for many in range(1, len(arguments)):
            first, rest = list(arguments)[:many], list(arguments)[many:]
            values = [arguments[name] for name in first]
            self.assertEqual(wanted, told(call, values, turned_round({name: arguments[name] for name in rest})))
        self.assertEqual(before, shown(arguments))

    def test_functions_and_classes(self):
        for rows in (rows_of_errors, rows_of_streets_and_wards, rows_of_towns_and_signs, rows_of_answers):
            for call, arguments in rows():
                self.check_row(call, arguments)

    def test_methods_of_works(self):
        for call, arguments in DEEDS:
            found = []
            for values, named in ((arguments.values(), {}), ((), turned_round(arguments))):
                changed = works.Works(TRI)
                changed["r"] = "b"
                found.append([told(call, (changed, *values), named), shown(changed)])
            self.assertEqual(found[0], found[1])
            self.assertEqual(call not in (works.Works.judge,), found[0][0][0] != "raises")

    def test_lines_by_name(self):
        one, other = desk.Desk(), desk.Desk()
        for line in ("lane l a b", "avenue x a b", "price", "undo", "plan", "undo", "price"):
            self.assertEqual(told(one.say, (line,), {}), told(other, (), {"line": line}))
        self.assertEqual(shown(one), shown(other))

    def test_what_stands_behind_a_star_is_passed_by_name(self):
        road = TRI["t"]
        self.assertEqual("road t a c 1 2", str(road.priced(back=2, there=1)))
        self.assertEqual("road t a c 1 2", str(TRI.priced(back=2, there=1, name="t")["t"]))
        for call, values in ((road.priced, (1, 2)), (TRI.priced, ("t", 1, 2)), (TRI.priced, ("t", 1))):
            with self.assertRaises(TypeError):
                call(*values)

    def test_any_number_of_arguments(self):
        self.assertEqual([0, 3, 3], [len(towns.Town()), len(towns.Town(*TRI)), len(towns.Town(*TRI, *TRI))])
        self.assertEqual([TRI, TRI, RING], [TRI.shut(), TRI.opened(), RING.turned()])
        self.assertEqual([], desk.Desk().run())


class ReturnedTest(Case):
    def test_returned_lists_and_dicts_belong_to_the_caller(self):
        for call in (lambda: RING.parts, lambda: FIVE.parts, lambda: leads.in_counts(TRI, RING)):
            found = call()
            found.clear()
            self.assertTrue(call())
        table = desk.Desk()
        answers = table.run("lane l a b", "works")
        before = shown(table)
        answers.clear()
        self.assertEqual(before, shown(table))

    def test_objects_take_their_own_copies(self):
        parts = {"r": ("a", "b")}
        made = signs.Signs(parts)
        parts["s"] = ("b", "c")
        self.assertEqual(("r",), made.names)
        table = {("a",): 5}
        heavy = weights.Weights(table)
        table[("b",)] = 6
        self.assertEqual(1, len(heavy))

    def test_functions_without_a_result(self):
        same = works.Works(TRI)
        for found in (names.need_name("a"), same.set_need(2), same.give(signs.Signs.none()), same.set_need(need=1)):
            self.assertIsNone(found)

    def test_works_and_desks_alone_change(self):
        same, table = works.Works(mixed()), desk.Desk()
        kept = [TRI, RING, FIVE, TURN, BEST, NEVER, LOOKER, CHOICE, WAYS, mixed()]
        before = shown(kept)
        same |= signs.Signs({"r": ("a", "b"), "s": ("b", "a")})
        same ^= moves.Turn(("r", "s"), "a", "a")
        same.put(TRI["t"])
        table.run(*[str(street) for street in TRI], "fill")
        self.assertTrue(LOOKER(BEST))
        self.assertEqual(before, shown(kept))


HISTORY = [
    ("road r a b 0 5", lambda same: same.put(streets.Road("r", "b", "a", 5))),
    ("road s b c 0 5", lambda same: same.put(streets.Road("s", "b", "c", 0, 5))),
    ("avenue t a c", lambda same: same.put(streets.Avenue("t", "c", "a"))),
    ("road t a c 0 5", lambda same: same.put(streets.Road("t", "a", "c", back=5))),
    ("sign t a", lambda same: same.__setitem__("t", "a")),
    ("need 2", lambda same: same.set_need(2)),
    ("undo", lambda same: same.undo()),
    ("fill", lambda same: same.fill()),
    ("turn a a r s t", lambda same: same.turn_about(moves.Turn(("r", "s", "t"), "a", "a"))),
    ("take s", lambda same: same.take("s")),
    ("lane l a d", lambda same: same.put(streets.Lane("l", "a", "d"))),
    ("lane m d b", lambda same: same.put(streets.Lane("m", "d", "b"))),
    ("shut r", lambda same: same.shut("r")),
    ("undo", lambda same: same.undo()),
    ("need 1", lambda same: setattr(same, "need", 1)),
    ("sign s b", lambda same: same.give(signs.Signs({"s": ("c", "b")}))),
]


class HistoryTest(Case):
    def test_one_history_by_calls_by_lines_and_by_texts(self):
        by_calls, by_lines, by_texts = works.Works(towns.Town()), desk.Desk(), works.Works(towns.Town())
        for line, call in HISTORY:
            call(by_calls)
            by_lines.say(line)
            if line == "undo":
                by_texts = reader.read_works(texts.works_text(by_calls))
            else:
                call(by_texts)
                by_texts = reader.read_works(texts.works_text(by_texts))
            self.check_equal(by_calls, by_lines.works_now())
            self.check_equal(by_calls, by_texts)
            self.assertEqual([by_calls.deeds, 0], [len(by_lines), by_texts.deeds])
            self.assertEqual(texts.works_text(by_texts).replace("\n", " ; "), by_lines("works"))
        self.check_equal(by_calls.answer(), by_texts.answer())
        self.assertEqual(str(by_calls.price()), by_lines("price"))
        self.check_equal(by_calls.judge(), by_texts.judge())

    def test_parts_by_texts(self):
        for town, lead, need in ((TRI, RING, 1), (THREE, ONE, 1), (WIDE, RING, 1)):
            town, lead = reader.read_town(texts.town_text(town)), reader.read_signs(texts.signs_text(lead))
            answer = reader.read_answer(texts.answer_text(best.cheapest(town, need)))
            self.check_equal(best.cheapest(town, need), answer)
            self.assertIs(True, lookers.Looker(town, need)(answer))
            told_ways = reader.read_ways(texts.ways_text(ways.ways_of(town, lead, need)))
            self.assertIs(True, ways.shows_ways(town, lead, need, told_ways))
            heavy = reader.read_weights(texts.weights_text(answer.weights))
            self.assertEqual(answer.cost, heavy.bound(town, need))


if __name__ == "__main__":
    unittest.main()
