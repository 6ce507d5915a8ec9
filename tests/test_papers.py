"""Papers of all modules: they keep any values, and are equal to nothing but papers with equal attributes."""

import unittest

from signtown.best import Answer, Best, Never
from signtown.choices import Choice
from signtown.counts import Counted, CountSpan, Crowded
from signtown.greatest import Greatest
from signtown.judge import Short, Sound, Strength, Verdict
from signtown.moves import Moved, Stuck
from signtown.narrow import Tied, Turned, Turning
from signtown.signs import Signs
from signtown.steps import Step
from signtown.streets import Lane
from signtown.wards import Ward
from signtown.ways import Bundle, Ways
from values import Case, all_values

FIELDS = {
    Bundle: ["walks", "ward"], Ways: ["root", "out", "back"], Sound: ["ways"], Short: ["ward"],
    Strength: ["number", "ward", "ways"], Turned: ["signs", "ways"], Tied: ["ward"],
    Best: ["cost", "signs", "ways", "weights"], Never: ["weights"], CountSpan: ["least", "most", "low", "high"],
    Counted: ["signs"], Crowded: ["corners"], Moved: ["turn", "signs", "ways"], Stuck: ["ward"],
    Step: ["turn", "signs"], Choice: ["name", "one", "other"], Greatest: ["number", "best", "never"],
}
TRUE = [Sound, Turned, Best, CountSpan, Counted, Moved]
FALSE = [Short, Tied, Never, Crowded, Stuck]
# Each row has a value, an equal one that was made anew, and others that are unlike it, if only in kind.
ROWS = [
    (1, 1, [True, 2, "1", None]),
    (0, 0, [False, None, "", ()]),
    (None, None, [False, 0, "None", {}]),
    ("ab", "ab", ["ba", ["a", "b"], ("a", "b")]),
    (("a", "b"), ("a", "b"), [["a", "b"], ("b", "a"), ("a",), ("a", "b", "c"), {"a": "b"}]),
    ([(1,), 2], [(1,), 2], [[(True,), 2], [[1], 2], ((1,), 2), [(1,), 2, 2]]),
    ({"a": (1,), "b": 2}, {"b": 2, "a": (1,)}, [{"a": (True,), "b": 2}, {"a": [1], "b": 2}, {"a": (1,)}, {}]),
    ({1: "a"}, {1: "a"}, [{True: "a"}, {"1": "a"}, [1]]),
    ({(1, "a"): None}, {(1, "a"): None}, [{(True, "a"): None}, {(1, "b"): None}, {(1, "a"): 0}]),
    (Ward("a", "b"), Ward("b", "a"), [Ward("a"), "a,b", ("a", "b")]),
    (Signs({"r": ("a", "b")}), Signs({"r": ("a", "b")}), [Signs({"r": ("b", "a")}), {"r": ("a", "b")}]),
    (Sound((1,)), Sound((1,)), [Sound((True,)), Sound([1]), Short((1,)), (1,)]),
    ((Never({"a": 1}),), (Never({"a": 1}),), [(Never({"a": True}),), (Best(0, 0, 0, {"a": 1}),)]),
]


class KeptTest(Case):
    def test_any_values_are_kept(self):
        for kind, names in FIELDS.items():
            for value in all_values():
                made = kind(*[value] * len(names))
                self.assertEqual([True] * len(names), [getattr(made, name) is value for name in names])

    def test_by_name_and_by_position(self):
        for kind, names in FIELDS.items():
            values = [["first"], ("second",), {"third": 3}, 4][:len(names)]
            for made in (kind(*values), kind(**dict(zip(names, values)))):
                self.assertEqual(values, [getattr(made, name) for name in names])
                self.assertTrue(all(getattr(made, name) is value for name, value in zip(names, values)))

    def test_values_of_all_kinds_can_be_compared(self):
        for kind, names in FIELDS.items():
            for value in all_values():
                self.check_equal(kind(*[value] * len(names)), kind(*[value] * len(names)))


class EqualTest(Case):
    def test_each_attribute_counts(self):
        for kind, names in FIELDS.items():
            for at in range(len(names)):
                for value, again, others in ROWS:
                    values = ["x"] * len(names)
                    made = kind(*values[:at], value, *values[at + 1:])
                    self.check_equal(made, kind(*values[:at], again, *values[at + 1:]))
                    for other in others:
                        self.check_unlike(made, kind(*values[:at], other, *values[at + 1:]))

    def test_nothing_else_is_equal(self):
        for kind, names in FIELDS.items():
            made = kind(*[Ward("q")] * len(names))
            for value in all_values() + [Lane("l", "a", "b"), vars(made), tuple(vars(made).values())]:
                self.check_unlike(made, value)
            for other, more in FIELDS.items():
                if other is not kind:
                    self.check_unlike(made, other(*[Ward("q")] * len(more)))


class TruthTest(Case):
    def test_true_and_false(self):
        for kinds, wanted in ((TRUE, True), (FALSE, False)):
            for kind in kinds:
                for value in (None, "a", 0, {}):
                    self.assertIs(wanted, bool(kind(*[value] * len(FIELDS[kind]))))

    def test_bases(self):
        for kind in FIELDS:
            self.assertEqual(
                [kind in (Sound, Short), kind in (Turned, Tied), kind in (Best, Never)],
                [issubclass(kind, Verdict), issubclass(kind, Turning), issubclass(kind, Answer)])

    def test_length_of_a_bundle(self):
        for walks in ((), (1, 2), ["a"], {"a": 1, "b": 2, "c": 3}):
            self.check_same(len(walks), len(Bundle(walks=walks, ward=None)))


if __name__ == "__main__":
    unittest.main()
