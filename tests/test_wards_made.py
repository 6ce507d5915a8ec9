"""signtown/wards.py: wards that are made, what they tell of themselves, and their texts."""

import itertools
import unittest

from signtown.errors import BadText, BadWard, TooMany
from signtown.wards import Ward
from values import Case, all_values, integers, no_names, no_strings, values_but

SEVEN = ["a", "b", "c", "d", "e", "f", "g"]
EIGHT = [*SEVEN, "h"]


class MadeTest(Case):
    def test_corners_in_any_order(self):
        for corners in itertools.permutations(["b", "ab", "a", "c"]):
            self.check_same(("a", "ab", "b", "c"), Ward(*corners).corners)

    def test_equal_corners_count_once(self):
        self.check_same(("a", "b"), Ward("b", "a", "b").corners)
        self.check_same(("a",), Ward("a", "a", "a").corners)
        self.check_same(tuple(SEVEN), Ward(*SEVEN, *reversed(SEVEN), *SEVEN).corners)

    def test_seven_corners_and_eight(self):
        self.check_same(tuple(SEVEN), Ward(*reversed(SEVEN)).corners)
        self.check_raises(TooMany, {"what": "corners", "most": 7}, Ward, *EIGHT)
        self.check_raises(TooMany, {"what": "corners", "most": 7}, Ward, *EIGHT, "i", "i")

    def test_none(self):
        self.check_raises(BadWard, {"part": "none"}, Ward)

    def test_no_names(self):
        for value in no_names():
            for corners in ([value], ["a", value], [value, "a"], ["a", "a", value, "b"]):
                self.check_raises(BadWard, {"part": "corner"}, Ward, *corners)

    def test_no_name_ahead_of_too_many(self):
        for value in no_names():
            for at in range(9):
                self.check_raises(BadWard, {"part": "corner"}, Ward, *EIGHT[:at], value, *EIGHT[at:])

    def test_longest_names(self):
        self.check_same(("abcdefgh", "zzzzzzzz"), Ward("zzzzzzzz", "abcdefgh").corners)


class ToldTest(Case):
    def test_corners_cannot_be_assigned(self):
        with self.assertRaises(AttributeError):
            Ward("a").corners = ("b",)

    def test_len(self):
        for many in range(1, 8):
            self.check_same(many, len(Ward(*SEVEN[:many], "a")))

    def test_in(self):
        ward = Ward("b", "a")
        self.assertEqual([True, True, False, False], [corner in ward for corner in ("a", "b", "c", "ab")])
        for value in no_names() + [("a", "b"), ["a"], "a,b", ward, Ward("a")]:
            self.assertIs(False, value in ward, value)

    def test_iterated_over_again_and_again(self):
        ward = Ward("c", "a", "b")
        self.assertEqual(["a", "b", "c"], [corner for corner in ward])
        self.assertEqual(["a", "b", "c"], list(ward))
        self.assertEqual([(one, other) for one in "abc" for other in "abc"], list(itertools.product(ward, ward)))

    def test_equal(self):
        self.check_equal(Ward("a"), Ward("a", "a"))
        self.check_equal(Ward("a", "b"), Ward("b", "a"))
        self.check_unlike(Ward("a"), Ward("b"))
        self.check_unlike(Ward("a"), Ward("a", "b"))
        self.check_unlike(Ward("ab"), Ward("a", "b"))

    def test_equal_to_nothing_else(self):
        for ward in (Ward("a"), Ward("a", "b")):
            for value in values_but(Ward) + [ward.corners, list(ward.corners), str(ward)]:
                self.check_unlike(ward, value)


class TextTest(Case):
    def test_str(self):
        self.check_same("a", str(Ward("a")))
        self.check_same("a,b,c", str(Ward("c", "a", "b", "a")))
        self.check_same("abcdefgh,b", str(Ward("b", "abcdefgh")))

    def test_read(self):
        for corners in (["a"], ["a", "b"], ["a", "aa", "ab", "b"], ["abcdefgh", "zzzzzzzz"], SEVEN):
            found = Ward.read(",".join(corners))
            self.assertIs(Ward, type(found))
            self.check_same(tuple(corners), found.corners)
            self.check_equal(found, Ward.read(text=str(found)))
            self.check_equal(found, Ward("z").read(str(found)))

    def test_read_refuses_texts(self):
        texts = [
            "b,a", "a,a", "a,b,b", "a,c,b", "b,a,c", "", ",", "a,", ",a", "a,,b", "a, b", "a ,b", " a", "a ", "a b",
            "A", "a,B", "a\n", "a\n,b", "a,b\n", "abcdefghi", "a,abcdefghi", "a;b", "a1", "1", "-", "a,-", "('a',)",
            ",".join(EIGHT), ",".join([*EIGHT, "i"]), "a," * 900, "aa,a", "{a}",
        ]
        for text in texts:
            self.check_raises(BadText, {"line": 0, "word": 0}, Ward.read, text)

    def test_read_refuses_other_values(self):
        for value in no_strings() + integers():
            self.check_raises(BadText, {"line": 0, "word": 0}, Ward.read, value)

    def test_read_is_right_for_all_values(self):
        for value in all_values():
            try:
                self.assertEqual(value, str(Ward.read(value)))
            except BadText:
                pass


if __name__ == "__main__":
    unittest.main()
