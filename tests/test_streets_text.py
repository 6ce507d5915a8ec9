"""signtown/streets.py: streets as texts, and texts that are read."""

import unittest

from signtown.errors import BadText
from signtown.streets import Avenue, Even, Lane, Road, Settled, Street
from values import Case, no_strings, integers

READERS = {"lane": [Street, Settled, Lane], "avenue": [Street, Settled, Even, Avenue], "road": [Street, Even, Road]}
CLASSES = (Street, Settled, Even, Lane, Avenue, Road)
STREETS = {
    "lane q a b": Lane("q", "a", "b"),
    "lane q b a": Lane("q", "b", "a"),
    "lane lane lane road": Lane("lane", "lane", "road"),
    "lane abcdefgh abcdefgh zzzzzzzz": Lane("abcdefgh", "abcdefgh", "zzzzzzzz"),
    "avenue q a b": Avenue("q", "b", "a"),
    "avenue q a aa": Avenue("q", "aa", "a"),
    "road q a b 0 0": Road("q", "a", "b"),
    "road q a b 5 -7": Road("q", "b", "a", -7, 5),
    "road q a b 10 100": Road("q", "a", "b", 10, 100),
    "road q a b -1 9": Road("q", "a", "b", -1, 9),
    "road q a b 999999999999 -999999999999": Road("q", "a", "b", 10 ** 12 - 1, 1 - 10 ** 12),
}
BAD_NAMES = ["", "A", "aB", "a1", "1", "abcdefghi", "a\n", "\n", "a,b", "-", "a-b", "0"]
BAD_PRICES = [
    "", "01", "-0", "00", "-01", "+1", "--1", "-", "+", "1-", "1.0", "1_0", "1e3", "0x1", "a", "None", "True",
    "1\n", "\n1", "1,", "1000000000000", "-1000000000000", "000000000000", "0000000000001", "1" * 60, "-" + "9" * 13,
    "9" * 1900, "\u0661", "\u00b2", "1\t",
]


class ReadCase(Case):
    """Tells for a text which class may read it, and where the others stop."""

    def check_word(self, word, text):
        """Each class that reads streets of this kind tells this word, the others tell the word 0."""
        readers = READERS.get(text.split(" ")[0], [])
        for reader in CLASSES:
            wanted = word if reader in readers else 0
            self.check_raises(BadText, {"line": 0, "word": wanted}, reader.read, text)


class RightTest(ReadCase):
    def test_str(self):
        for text, street in STREETS.items():
            self.check_same(text, str(street))

    def test_read(self):
        for text, street in STREETS.items():
            for reader in READERS[text.split(" ")[0]]:
                found = reader.read(text)
                self.assertIs(type(street), type(found))
                self.assertEqual(street, found)
                self.assertEqual(vars(street), vars(found))
                self.assertEqual(text, str(reader.read(text=text)))

    def test_read_off_an_object(self):
        self.assertEqual(Lane("q", "a", "b"), Lane("s", "a", "z").read("lane q a b"))

    def test_of_another_class(self):
        for text in STREETS:
            for reader in CLASSES:
                if reader not in READERS[text.split(" ")[0]]:
                    self.check_raises(BadText, {"line": 0, "word": 0}, reader.read, text)


class WrongTest(ReadCase):
    def test_no_string(self):
        for value in no_strings() + integers():
            for reader in CLASSES:
                self.check_raises(BadText, {"line": 0, "word": 0}, reader.read, value)

    def test_a_word_is_missing(self):
        for text in STREETS:
            words = text.split(" ")
            for many in range(1, len(words)):
                self.check_word(many, " ".join(words[:many]))

    def test_words_too_many(self):
        for text in STREETS:
            many = len(text.split(" "))
            for more in ("0", "a", "", "0 0", " ", "lane q a b", "\n"):
                self.check_word(many, f"{text} {more}")

    def test_an_empty_word(self):
        for text in STREETS:
            words = text.split(" ")
            for at in range(len(words) + 1):
                self.check_word(at, " ".join([*words[:at], "", *words[at:]]))
        for text in ("", " ", "  "):
            self.check_word(0, text)

    def test_wrong_kind(self):
        for kind in ("Lane", "street", "lanes", "lan", "LANE", "lane\n", "\nlane", "settled", "even", "a", "0", "-"):
            for rest in ("q a b", "q a b 0 0", "Q A A 01", ""):
                self.check_word(0, f"{kind} {rest}")

    def test_wrong_names(self):
        for kind, prices in (("lane", ""), ("avenue", ""), ("road", " 0 0")):
            for bad in BAD_NAMES:
                self.check_word(1, f"{kind} {bad} a b{prices}")
                self.check_word(2, f"{kind} q {bad} b{prices}")
                self.check_word(3, f"{kind} q a {bad}{prices}")

    def test_equal_ends(self):
        for corner in ("a", "q", "abcdefgh"):
            self.check_word(3, f"lane q {corner} {corner}")
            self.check_word(3, f"avenue q {corner} {corner}")
            self.check_word(3, f"road q {corner} {corner} 0 0")

    def test_exchanged_ends(self):
        for one, other in (("b", "a"), ("aa", "a"), ("b", "ab")):
            self.check_word(3, f"avenue q {one} {other}")
            self.check_word(3, f"road q {one} {other} 0 0")
            self.assertEqual(Lane("q", one, other), Street.read(f"lane q {one} {other}"))

    def test_wrong_prices(self):
        for bad in BAD_PRICES:
            self.check_word(4, f"road q a b {bad} 0")
            self.check_word(5, f"road q a b 0 {bad}")

    def test_the_first_wrong_word(self):
        self.check_word(1, "road Q A A 01 01 01")
        self.check_word(2, "road q A A 01 01 01")
        self.check_word(3, "road q a a 01 01 01")
        self.check_word(3, "road q b a 01 01 01")
        self.check_word(4, "road q a b 01 01 01")
        self.check_word(5, "road q a b 1 01 01")
        self.check_word(6, "road q a b 1 1 01")
        self.check_word(1, "road Q")
        self.check_word(2, "lane q A")
        self.check_word(3, "lane q a a z")
        self.check_word(4, "road q a b 01")
        self.check_word(4, "lane q a b 0 0")
        self.check_word(4, "road q a b")

    def test_newlines_part_no_words(self):
        self.check_word(3, "lane q a b\n")
        self.check_word(3, "lane q a b\nlane r a b")
        self.check_word(0, "lane\nq a b")
        self.check_word(5, "road q a b 0 0\n")

    def test_long_texts(self):
        self.check_word(4, "lane q a b" + " a" * 900)
        self.check_word(1, "lane " + "a" * 1990)
        self.check_word(0, "a" * 2000)
        self.check_word(0, " " * 2000)


if __name__ == "__main__":
    unittest.main()
