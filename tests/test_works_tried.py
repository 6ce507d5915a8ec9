"""signtown/works.py: works that are tried, and are behind it as they were."""

import unittest

from signtown.errors import BadNeed, NoDeed, NoRoad, NoSigns, TooMany
from signtown.moves import Turn
from signtown.signs import Signs
from signtown.streets import Lane, Road
from signtown.towns import Town
from signtown.works import Works
from plain_towns import RING
from some_towns import triangle
from values import Case, shown


def works_with_deeds():
    works = Works(triangle())
    works["t"] = "a"
    works.put(Lane("l", "a", "b"))
    works.need = 2
    return works


def many_deeds(works):
    """Deeds of all words; what the last one returns."""
    works.undo()
    works.put(Road("z", "a", "b", 1, 1))
    works.shut("l")
    works["r"] = "a"
    works.take("r")
    works.give(Signs({"r": ("a", "b"), "s": ("b", "c")}))
    works.turn_about(Turn(("r", "s", "t"), "a", "a"))
    works.need = 1
    return works.fill()


def raising(error):
    """A work that does deeds and raises the error."""
    def work(works):
        many_deeds(works)
        raise error
    return work


ERRORS = [KeyError("x"), ValueError("x"), TypeError("x"), ZeroDivisionError(), KeyboardInterrupt(), NoSigns(),
          BadNeed(0), StopIteration()]


class TriedTest(Case):
    def test_behind_the_block_all_is_as_it_was(self):
        works = works_with_deeds()
        before, twin = shown(works), works.twin()
        with works.tried() as same:
            self.assertIs(works, same)
            self.assertEqual(1, many_deeds(same))
            self.check_unlike(twin, works)
            self.assertEqual(10, works.deeds)
        self.assertEqual(before, shown(works))
        self.assertEqual(["need", "put", "sign"], [works.undo(), works.undo(), works.undo()])
        self.check_equal(Works(triangle()), works)

    def test_deeds_taken_back_within(self):
        works = works_with_deeds()
        before = shown(works)
        with works.tried():
            while works.deeds:
                works.undo()
            self.check_equal(Works(triangle()), works)
            self.check_raises(NoDeed, {}, works.undo)
        self.assertEqual(before, shown(works))
        with works.tried() as same:
            same.undo()
            same.undo()
            same["r"] = "b"
        self.assertEqual(before, shown(works))

    def test_blocks_left_by_errors(self):
        for error in ERRORS:
            works = works_with_deeds()
            before = shown(works)
            with self.assertRaises(type(error)) as caught:
                with works.tried() as same:
                    many_deeds(same)
                    raise error
            self.assertIs(error, caught.exception)
            self.assertEqual(before, shown(works))

    def test_blocks_left_by_refused_deeds(self):
        works = works_with_deeds()
        before = shown(works)
        with self.assertRaises(NoRoad):
            with works.tried():
                works["r"] = "a"
                works["zz"] = "a"
        self.assertEqual(before, shown(works))

    def test_blocks_left_early(self):
        works = works_with_deeds()
        before = shown(works)
        for _ in range(3):
            with works.tried():
                works["r"] = "a"
                continue
        self.assertEqual(before, shown(works))

    def test_nested_blocks(self):
        works = works_with_deeds()
        states = [shown(works)]
        with works.tried():
            works["r"] = "a"
            states.append(shown(works))
            with works.tried():
                works.undo()
                works.undo()
                states.append(shown(works))
                with self.assertRaises(KeyError), works.tried():
                    works.tried_by(lambda same: same.shut("r"))
                    works.shut("s")
                    raise KeyError("x")
                self.assertEqual(states[2], shown(works))
            self.assertEqual(states[1], shown(works))
        self.assertEqual(states[0], shown(works))

    def test_each_call_is_for_one_block(self):
        works = works_with_deeds()
        with works.tried():
            works["r"] = "a"
        works["s"] = "b"
        before = shown(works)
        with works.tried():
            works["s"] = "c"
        self.assertEqual([before, "b"], [shown(works), works["s"]])

    def test_from_where_the_block_begins(self):
        works = works_with_deeds()
        block = works.tried()
        works["s"] = "b"
        before = shown(works)
        with block:
            works.undo()
        self.assertEqual(before, shown(works))


class TriedByTest(Case):
    def test_what_comes_back(self):
        works = works_with_deeds()
        before = shown(works)
        self.assertEqual(1, works.tried_by(many_deeds))
        self.assertEqual(before, shown(works))
        for value in (None, 0, [1], "x", Town()):
            self.assertIs(value, works.tried_by(work=lambda same: value))
        self.assertIs(works, works.tried_by(lambda same: same))
        self.assertEqual([4, 3], [works.tried_by(lambda same: same.put(triangle()["s"])), works.deeds])
        self.assertEqual(before, shown(works))

    def test_errors_go_on(self):
        for error in ERRORS:
            works = works_with_deeds()
            before = shown(works)
            with self.assertRaises(type(error)) as caught:
                works.tried_by(raising(error))
            self.assertIs(error, caught.exception)
            self.assertEqual(before, shown(works))


class AttemptTest(Case):
    def test_what_is_done_stays(self):
        works, other = works_with_deeds(), works_with_deeds()
        self.assertEqual(1, works.attempt(many_deeds))
        many_deeds(other)
        self.check_equal(other, works)
        self.assertEqual(shown(other), shown(works))
        self.assertEqual([10, "fill"], [works.deeds, works.undo()])
        for value in (None, 0, [1]):
            self.assertIs(value, works.attempt(work=lambda same: value))
        self.assertIs(works, works.attempt(lambda same: same))

    def test_errors_go_on_and_change_nothing(self):
        for error in ERRORS:
            works = works_with_deeds()
            before = shown(works)
            with self.assertRaises(type(error)) as caught:
                works.attempt(raising(error))
            self.assertIs(error, caught.exception)
            self.assertEqual(before, shown(works))
            self.assertEqual(["need", "put", "sign"], [works.undo(), works.undo(), works.undo()])

    def test_refused_deeds_within(self):
        works = works_with_deeds()
        before = shown(works)
        with self.assertRaises(TooMany):
            works.attempt(lambda same: [same.put(Road(name, "a", name)) for name in "efghijk"])
        self.assertEqual(before, shown(works))

    def test_an_error_that_is_caught_within(self):
        works = works_with_deeds()

        def work(same):
            same["r"] = "a"
            with self.assertRaises(NoRoad):
                same.attempt(lambda again: [again.undo(), again.undo(), again.give(Signs({"zz": ("a", "b")}))])
            same["s"] = "b"
        works.attempt(work)
        self.assertEqual([5, ("r", "s", "t")], [works.deeds, works.given.names])

    def test_attempts_in_blocks(self):
        works = works_with_deeds()
        before = shown(works)
        with works.tried():
            works.attempt(many_deeds)
            self.assertEqual(10, works.deeds)
            behind = shown(works)
            self.assertEqual(1, works.attempt(lambda same: same.tried_by(lambda again: again.shut("r") and 1)))
            self.assertEqual(behind, shown(works))
        self.assertEqual(before, shown(works))


class TwinTest(Case):
    def test_a_twin_goes_its_own_way(self):
        works = works_with_deeds()
        with works.tried():
            works.undo()
            twin = works.twin()
            self.assertEqual([0, 1], [twin.deeds, twin.need])
            twin["r"] = "a"
        self.assertEqual([2, 3, False], [works.need, works.deeds, "r" in works])
        self.assertEqual([1, 1, "a"], [twin.need, twin.deeds, twin["r"]])
        before = shown(twin)
        with twin.tried():
            works.give(RING - "r")
            many_deeds(works)
        self.assertEqual(before, shown(twin))
        self.check_unlike(works, twin)


if __name__ == "__main__":
    unittest.main()
