"""signtown/names.py: what is a name, a price, a need, told of values of all kinds."""

import unittest

from signtown.errors import BadName
from signtown.names import is_name, is_need, is_price, need_name
from values import Case, integers, no_names, no_prices, no_strings, other_strings

LETTERS = "abcdefghijklmnopqrstuvwxyz"
RIGHT_NAMES = [*LETTERS, "ab", "az", "zz", "abcdefgh", "zzzzzzzz", LETTERS[:8], LETTERS[-8:], "lane", "road"]
FOREIGN_LETTERS = ["\u00e4", "a\u00e9", "\u0430", "\uff41", "\u00aa", "\u00df", "a\u0301"]


class NamesTest(Case):
    def test_names(self):
        for name in RIGHT_NAMES:
            self.assertIs(True, is_name(name), name)
            self.assertIsNone(need_name(name))

    def test_no_names(self):
        for value in no_names() + FOREIGN_LETTERS:
            self.assertIs(False, is_name(value), value)
            self.check_raises(BadName, {"value": value}, need_name, value)

    def test_bounds_of_the_length(self):
        self.assertEqual([False, True, True, False], [is_name("q" * length) for length in (0, 1, 8, 9)])

    def test_each_other_sign_is_no_letter(self):
        for sign in [chr(code) for code in range(300)]:
            for text in (sign, "a" + sign, sign + "a", "a" + sign + "a"):
                self.assertIs(sign in LETTERS, is_name(text), text)

    def test_by_the_name_of_the_parameter(self):
        self.assertEqual([True, False], [is_name(value="ab"), is_name(value="")])
        self.assertEqual([True, False], [is_price(value=-7), is_price(value="7")])
        self.assertEqual([True, False], [is_need(value=7), is_need(value=-7)])
        self.assertIsNone(need_name(value="ab"))
        self.check_raises(BadName, {"value": True}, need_name, value=True)


class PriceTest(Case):
    def test_prices(self):
        for value in (0, 1, -1, 5, -5, 20, 21, 10 ** 11, 999999999999, -999999999999):
            self.assertIs(True, is_price(value), value)

    def test_no_prices(self):
        for value in no_prices():
            self.assertIs(False, is_price(value), value)
        for value in (1000000000000, -1000000000000, 0.0, 1.0):
            self.assertIs(False, is_price(value), value)


class NeedTest(Case):
    def test_integers(self):
        for value in [*integers(), *range(-30, 31)]:
            self.assertIs(1 <= value <= 20, is_need(value), value)
        self.assertEqual([False, True, True, False], [is_need(value) for value in (0, 1, 20, 21)])

    def test_no_needs(self):
        for value in no_strings() + other_strings() + ["a", "1", 1.0, 5.0]:
            self.assertIs(False, is_need(value), value)


if __name__ == "__main__":
    unittest.main()
