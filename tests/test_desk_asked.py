"""signtown/desk.py: the answers to questions, beside those of the other modules, and beside a look at all signs."""

import random
import unittest

from signtown.choices import choice, sure_signs
from signtown.counts import count_span
from signtown.desk import Desk
from signtown.errors import NoCorner, NoRoad, NoSigns
from signtown.greatest import greatest
from signtown.signs import Signs
from signtown.streets import Avenue, Lane, Road
from signtown.wards import Ward
from signtown.weights import Weights
from signtown.works import Works
from by_definition import bound_of, counts_into, excess_of, price_of
from some_towns import all_signs, complete, drawn_rounds, drawn_town, ring_of, some_towns, triangle
from values import Case, shown

KINDS = [(Road,), (Road, Road, Road, Lane), (Road, Road, Avenue), (Road, Road, Road, Lane, Avenue)]


def small_towns():
    draw = random.Random(62)
    towns = [triangle(), complete(4), ring_of(4)] + some_towns()[1:6]
    towns += [drawn_rounds(draw, *draw.choice([(2, 3), (3, 2), (4, 1)]), draw.choice(KINDS)) for _ in range(10)]
    return towns + [drawn_town(draw, draw.choice([2, 3, 4]), 6, draw.choice(KINDS)) for _ in range(10)]


def desk_of(town, need, given):
    """A desk with this town, need and given signs, told by lines."""
    desk = Desk()
    desk.run(*[str(street) for street in town], f"need {need}", *[f"sign {name} {given[name]}" for name in given])
    return desk


def told(signs):
    """What SIGNS tell of parts."""
    return ", ".join(f"{name} {signs[name]}" for name in sorted(signs)) or "-"


def goals(signs):
    return {name: goal for name, (_, goal) in signs.parts.items()}


def read_weights(answer):
    """The parts of the weights of an answer to why, in its order."""
    if answer == "-":
        return {}
    rows = [row.split(" ") for row in answer.split(", ")]
    return {Ward.read(ward).corners: int(number) for ward, number in rows}


class AllSignsTest(Case):
    def check_desk(self, town, need, given, rows):
        """The answers beside all fitting signs; whether there are any."""
        desk = desk_of(town, need, given)
        before = shown(desk)
        fitting = [signs for least, signs in rows if least >= need and given <= signs]
        prices = [price_of(town, signs) for signs in fitting]
        self.assertEqual(str(min(prices)) if prices else "none", desk("price"))
        self.check_plan(desk, town, fitting, prices)
        cheap = [goals(signs).items() for signs, price in zip(fitting, prices) if price == min(prices)]
        common = dict(set.intersection(*[set(items) for items in cheap])) if cheap else None
        self.assertEqual(told(common) if cheap else "none", desk("sure"))
        self.check_weights(desk, town, need, given, prices)
        for name in town.roads:
            self.check_gap(desk, town, given, name, fitting, prices)
        for corner in town.corners:
            counts = [list(goals(signs).values()).count(corner) for signs in fitting]
            self.assertEqual(f"{min(counts)} to {max(counts)}" if counts else "none", desk(f"count {corner}"))
        self.assertEqual(str(max([least for least, signs in rows if given <= signs])), desk("greatest"))
        self.check_judge(desk, town, need, given)
        self.assertEqual(before, shown(desk))
        return bool(fitting)

    def check_plan(self, desk, town, fitting, prices):
        answer = desk("plan")
        if not fitting:
            self.assertEqual("none", answer)
            return
        plans = [told(goals(signs)) for signs, price in zip(fitting, prices) if price == min(prices)]
        self.assertIn(answer, plans)

    def check_weights(self, desk, town, need, given, prices):
        answer, plan = desk("why"), town.settled(given)
        parts = read_weights(answer)
        rows = [f"{','.join(ward)} {parts[ward]}" for ward in sorted(parts, key=lambda ward: (len(ward), ward))]
        self.assertEqual(", ".join(rows) or "-", answer)
        if prices:
            paid = sum(town[name].price(given[name]) for name in given)
            self.assertEqual(min(prices) - paid, bound_of(parts, plan, need))
        else:
            self.assertGreater(excess_of(parts, plan, need), 0)

    def check_gap(self, desk, town, given, name, fitting, prices):
        if name in given:
            self.check_raises(NoRoad, {"name": name}, desk, f"gap {name}")
            return
        sides = [[price for signs, price in zip(fitting, prices) if signs[name] == goal] for goal in town[name].ends]
        if all(sides):
            wanted = str(min(sides[1]) - min(sides[0]))
        elif sides[0] or sides[1]:
            wanted = f"only {town[name].ends[0] if sides[0] else town[name].ends[1]}"
        else:
            wanted = "none"
        self.assertEqual(wanted, desk(f"gap {name}"))

    def check_judge(self, desk, town, need, given):
        if len(given) < len(town.roads):
            return
        answer, numbers = desk("judge"), counts_into(town, given)
        if min(numbers.values()) >= need:
            self.assertEqual("good", answer)
        else:
            self.assertEqual("short ", answer[:6])
            self.assertLess(numbers[Ward.read(answer[6:]).corners], need)

    def test_against_all_signs(self):
        draw = random.Random(63)
        found = {True: 0, False: 0}
        for town in small_towns():
            rows = [(min(counts_into(town, signs).values()), signs) for signs in all_signs(town)]
            for need in (1, 2):
                for share in (0, 0.3, 1):
                    signs = draw.choice(rows)[1]
                    given = Signs({name: pair for name, pair in signs.parts.items() if draw.random() < share})
                    found[self.check_desk(town, need, given, rows)] += 1
        self.assertGreater(min(found.values()), 30)


class ModulesTest(Case):
    def test_the_answers_are_those_of_the_other_modules(self):
        draw = random.Random(64)
        big = drawn_rounds(draw, 7, 2, (Road,), 12)
        for town in [drawn_rounds(draw, 5, 2, kinds, 12) for kinds in KINDS] + [big, complete(4), triangle()]:
            for need, share in ((1, 0), (1, 0.3), (2, 0.1)):
                signs = draw.choice(all_signs(town))
                given = Signs({name: pair for name, pair in signs.parts.items() if draw.random() < share})
                self.check_desk(desk_of(town, need, given), town.settled(given), need, given)

    def check_desk(self, desk, plan, need, given):
        works = desk.works_now()
        answer = works.answer()
        parts = [f"{ward} {answer.weights[ward]}" for ward in answer.weights]
        self.assertEqual(", ".join(parts) or "-", desk("why"))
        self.assertEqual(str(greatest(plan).number), desk("greatest"))
        try:
            wanted = [str(works.price()), told(goals(works.finished())), told(goals(given | sure_signs(plan, need)))]
            self.assertEqual(wanted, desk.run("price", "plan", "sure"))
        except NoSigns:
            self.assertEqual(["none"] * 3, desk.run("price", "plan", "sure"))
        for name in works.left:
            side = choice(plan, need, name)
            only = "none" if side.settles(plan) is None else f"only {side.settles(plan)}"
            self.assertEqual(only if side.gap(plan) is None else str(side.gap(plan)), desk(f"gap {name}"))
        for corner in plan.corners:
            span = count_span(plan, need, corner)
            wanted = f"{span.least + given(corner)} to {span.most + given(corner)}" if span else "none"
            self.assertEqual(wanted, desk(f"count {corner}"))

    def test_towns_without_roads(self):
        desk = Desk()
        self.assertEqual(["1", "-", "0", "-", "-", "0 to 0", "1", "good"], desk.run(
            "avenue x a b", "plan", "price", "why", "sure", "count a", "greatest", "judge"))
        self.assertEqual(["2", "none", "none", "none", "none", "0", "short c"], desk.run(
            "lane l c b", "plan", "price", "sure", "count c", "greatest", "judge"))
        self.check_raises(NoRoad, {"name": "x"}, desk, "gap x")
        self.check_raises(NoCorner, {"name": "x"}, desk, "count x")
        self.assertEqual(Weights.of(Ward("c")).parts, read_weights(desk("why")))

    def test_one_history_for_all(self):
        desk = desk_of(triangle(), 1, Signs({"t": ("a", "c")}))
        self.assertEqual(["10", "r a, s b, t c", "r a, s b, t c", "only a", "1 to 1", "1", "sign", "5", "5"], desk.run(
            "price", "plan", "sure", "gap r", "count c", "greatest", "undo", "price", "gap t"))
        self.assertEqual(Works(triangle()), desk.works_now())


if __name__ == "__main__":
    unittest.main()
