"""signtown/works.py: the cheapest signs that have the given ones, beside all signs of the roads."""

import random
import unittest

from signtown.best import Never, cheapest
from signtown.errors import Barred, Empty, NoSign, NoSigns
from signtown.judge import Short, Sound, judge
from signtown.lookers import Looker
from signtown.signs import Signs
from signtown.streets import Avenue, Lane, Road
from signtown.towns import Town
from signtown.works import Works
from by_definition import counts_into, price_of
from plain_towns import RING, THREE
from some_towns import (
    all_signs, complete, drawn_rounds, drawn_town, mixed, ring_of, some_towns, town_again, triangle)
from values import Case, shown

KINDS = [(Road,), (Road, Road, Road, Lane), (Road, Road, Avenue), (Road, Road, Road, Lane, Avenue)]


def small_towns():
    draw = random.Random(42)
    towns = [triangle(), THREE, complete(4)] + some_towns()[2:6]
    towns += [drawn_rounds(draw, *draw.choice([(2, 3), (3, 2), (4, 1)]), draw.choice(KINDS)) for _ in range(15)]
    return towns + [drawn_town(draw, draw.choice([2, 3, 4]), 6, draw.choice(KINDS)) for _ in range(15)]


def parts_of(draw, town):
    """Signs of none, some and all roads of the town."""
    found = []
    for share in (0, 0.3, 0.6, 1):
        signs = draw.choice(all_signs(town))
        found.append(Signs({name: pair for name, pair in signs.parts.items() if draw.random() < share}))
    return found


class FinishedTest(Case):
    def check_works(self, town, given, need, rows):
        """All that is asked of the works, beside rows of the least numbers and all signs; whether there are fitting."""
        works = Works(town, need)
        works.give(given)
        before = shown(works)
        self.check_equal(cheapest(town.settled(given), need), works.answer())
        fitting = [signs for least, signs in rows if least >= need and given <= signs]
        if fitting:
            best = min(price_of(town, signs) for signs in fitting)
            self.check_finished(works, town, given, need, best)
        else:
            self.check_none(works)
        if len(given) == len(town.roads):
            self.check_equal(judge(town, given, need), works.judge())
            self.assertIs(Sound if fitting else Short, type(works.judge()))
        else:
            self.check_raises(NoSign, {"name": works.left[0]}, works.judge)
        self.assertEqual(before, shown(works))
        self.check_fill(works, bool(fitting))
        return bool(fitting)

    def check_finished(self, works, town, given, need, best):
        found = works.finished()
        self.assertEqual([Signs, True, True], [type(found), found.fits(town), given <= found])
        self.assertGreaterEqual(min(counts_into(town, found).values()), need)
        self.check_same(best, price_of(town, found))
        self.check_same(best, works.price())
        self.assertEqual(best - sum(town[name].price(given[name]) for name in given), works.answer().cost)
        again = Works(town_again(town), need)
        again.give(given)
        self.check_equal(found, again.finished())

    def check_none(self, works):
        weights = works.answer().weights
        self.assertIs(True, Looker(works.town.settled(works.given), works.need)(Never(weights)))
        for call in (works.finished, works.price, works.fill):
            with self.assertRaises(NoSigns) as caught:
                call()
            self.assertEqual([NoSigns, Barred], [type(caught.exception), type(caught.exception.__cause__)])
            self.assertEqual([{}, {"weights": weights}], [vars(caught.exception), vars(caught.exception.__cause__)])

    def check_fill(self, works, fitting):
        if not fitting:
            return
        given, deeds, wanted = works.given, works.deeds, works.finished()
        left = len(works.left)
        self.check_same(left, works.fill())
        self.assertEqual([wanted, (), deeds + 1], [works.given, works.left, works.deeds])
        self.assertIs(Sound, type(works.judge()))
        self.check_same(0, works.fill())
        self.assertEqual(["fill", "fill", given], [works.undo(), works.undo(), works.given])

    def test_against_all_signs(self):
        draw = random.Random(43)
        found = {True: 0, False: 0}
        for town in small_towns():
            rows = [(min(counts_into(town, signs).values()), signs) for signs in all_signs(town)]
            for need in (1, 2):
                for given in parts_of(draw, town):
                    found[self.check_works(town, given, need, rows)] += 1
        self.assertGreater(min(found.values()), 50)

    def test_a_sign_more_never_makes_the_price_less(self):
        draw = random.Random(44)
        for town in (triangle(), complete(4), complete(5), drawn_rounds(draw, 4, 2, (Road, Road, Lane), 12)):
            for signs in draw.sample(all_signs(town), 6):
                works = Works(town)
                if not works.answer():
                    continue
                price = works.price()
                for name in draw.sample(town.roads, len(town.roads)):
                    works[name] = signs[name]
                    if not works.answer():
                        break
                    self.assertGreaterEqual(works.price(), price)
                    price = works.price()

    def test_the_price_stays_if_finished_signs_are_given(self):
        for town in (triangle(), complete(4), complete(5), ring_of(7)):
            works = Works(town)
            price, signs = works.price(), works.finished()
            for name in town.roads:
                works[name] = signs[name]
                self.assertEqual(price, works.price())
            self.assertEqual(signs, works.finished())

    def test_seven_corners_and_fourteen_streets(self):
        draw = random.Random(45)
        town = drawn_rounds(draw, 7, 2, (Road,), 12)
        works = Works(town)
        self.assertEqual([14, 14], [len(works.finished()), works.fill()])
        self.assertEqual(cheapest(town, 1).cost, works.price())

    def test_all_given(self):
        works = Works(triangle())
        works.give(RING)
        self.assertEqual([RING, 5, 0, True], [works.finished(), works.price(), works.fill(), bool(works.judge())])
        works["t"] = "c"
        self.check_none(works)
        self.assertEqual([Short, RING.turned("t")], [type(works.judge()), works.given])

    def test_towns_without_roads(self):
        works = Works(Town(Avenue("x", "a", "b")))
        self.assertEqual([Signs.none(), 0, 0, Sound], [
            works.finished(), works.price(), works.fill(), type(works.judge())])
        works.put(Lane("l", "b", "c"))
        self.check_none(works)
        self.assertIs(Short, type(works.judge()))


class RefusedTest(Case):
    def test_empty(self):
        for works in (Works(Town()), Works(Town(), 20)):
            before = shown(works)
            for call in (works.answer, works.finished, works.price, works.fill, works.judge):
                self.check_raises(Empty, {}, call)
            self.assertEqual(before, shown(works))
        works = Works(Town(Road("r", "a", "b")))
        works["r"] = "a"
        works.shut("r")
        self.check_raises(Empty, {}, works.judge)

    def test_signs_that_are_left(self):
        works = Works(mixed())
        for name in ("r", "s", "t", "u"):
            self.check_raises(NoSign, {"name": name}, works.judge)
            works[name] = "b" if name != "u" else "c"
        works.judge()
        works.take("s")
        self.check_raises(NoSign, {"name": "s"}, works.judge)


if __name__ == "__main__":
    unittest.main()
