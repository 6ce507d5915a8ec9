"""signtown/reader.py: the very line and word of texts that were spoilt, and of each rule that is broken."""

import random
import unittest

from signtown.errors import BadText, TooMany
from some_texts import some_of_all
from test_texts import READERS, TEXTS
from text_rules import first_wrong
from values import Case

LETTERS = "abz,-019 \n ~"


def spoilt_words(draw, text):
    """The text with a word less, doubled or exchanged, or with another word more."""
    lines = [line.split(" ") for line in text.split("\n")]
    words = [word for line in lines for word in line]
    line = draw.choice(lines)
    at = draw.randrange(len(line))
    change = draw.randrange(5)
    if change == 0:
        del line[at]
    elif change == 1:
        line.insert(at, line[at])
    elif change == 2:
        other = draw.randrange(len(line))
        line[at], line[other] = line[other], line[at]
    elif change == 3:
        line[at] = draw.choice(words)
    else:
        line.insert(draw.randrange(len(line) + 1), draw.choice(words + ["", "a", "0"]))
    return "\n".join(" ".join(line) for line in lines)


def spoilt_lines(draw, text):
    """The text with a line less, doubled or exchanged, or with another line more."""
    lines = text.split("\n")
    at, other = draw.randrange(len(lines)), draw.randrange(len(lines))
    change = draw.randrange(4)
    if change == 0:
        del lines[at]
    elif change == 1:
        lines.insert(at, lines[at])
    elif change == 2:
        lines[at], lines[other] = lines[other], lines[at]
    else:
        more = ["", " ", "town", "signs", "sign a b c", "weights", "weight 1 zz", "ways a", "out z a", "back z a",
                "best 1", "never", "works 1", "road z a b 0 0", "lane zz b a", "avenue z a b"]
        lines.insert(other, draw.choice(more))
    return "\n".join(lines)


def spoilt_letters(draw, text):
    """The text with a single sign less, more, doubled or exchanged."""
    if not text:
        return draw.choice(LETTERS)
    at = draw.randrange(len(text))
    change = draw.randrange(5)
    if change == 0:
        return text[:at] + text[at + 1:]
    if change == 1:
        return text[:at] + draw.choice(LETTERS) + text[at:]
    if change == 2:
        return text[:at] + text[at] + text[at:]
    if change == 3:
        return text[:at] + draw.choice(LETTERS) + text[at + 1:]
    return text[:at] + text[at:at + 2][::-1] + text[at + 2:]


class SpoiltTest(Case):
    def check_text(self, kind, text):
        """The reader tells of the text what the rules do; whether it can stand."""
        wanted = first_wrong(kind, text)
        if wanted is not None:
            self.check_raises(BadText, {"line": wanted[0], "word": wanted[1]}, READERS[kind], text)
            return False
        try:
            found = READERS[kind](text)
        except TooMany as error:
            self.assertIn((error.what, error.most), (("streets", 14), ("corners", 7), ("signs", 14)))
            return True
        self.assertEqual(text, TEXTS[kind](found))
        return True

    def check_spoilt(self, seed, places):
        draw = random.Random(seed)
        many = {True: 0, False: 0}
        for kind, _, text in some_of_all():
            self.assertIs(True, self.check_text(kind, text))
            for _ in range(60):
                spoilt = text
                for _ in range(places):
                    spoilt = draw.choice([spoilt_words, spoilt_lines, spoilt_letters])(draw, spoilt)
                many[self.check_text(kind, spoilt)] += 1
        self.assertGreater(min(many.values()), 50)

    def test_at_one_place(self):
        self.check_spoilt(53, 1)

    def test_at_two_places(self):
        self.check_spoilt(54, 2)

    def test_texts_that_end_early(self):
        for kind, _, text in some_of_all():
            for at in range(0, len(text), 1 + len(text) // 60):
                self.check_text(kind, text[:at])


class RulesTest(Case):
    def check_wrong(self, kind, text, line, word):
        self.check_raises(BadText, {"line": line, "word": word}, READERS[kind], text)

    def test_streets(self):
        for head, kind in (("town", "town"), ("works 3", "works")):
            for lines, line, word in (
                    ("lane s a b\nlane r b c", 2, 1), ("lane r a b\nlane r b c", 2, 1), ("lane r a a", 1, 3),
                    ("avenue r b a", 1, 3), ("road r b a 0 0", 1, 3), ("road r a b 0", 1, 5), ("road r a b 0 01", 1, 5),
                    ("road r a b 0 0 0", 1, 6), ("lane r a", 1, 3), ("lane r a b ", 1, 4), ("lane  r a b", 1, 1),
                    (" lane r a b", 1, 0), ("", 1, 0), ("lane r a b\n", 2, 0), ("street r a b", 1, 0),
                    ("lane s a b\nlane r a a", 2, 1), ("lane s a b\nlane R a a", 2, 1),
                    ("lane s a b\nroad t a b x", 2, 4), ("lane s a b\nlan r a b", 2, 0), ("lane", 1, 1),
                    ("lane r", 1, 2),
                    ("road r a b 1000000000000 0", 1, 4), ("road r a b -0 0", 1, 4)):
                self.check_wrong(kind, f"{head}\n{lines}", line, word)

    def test_titles(self):
        for kind, right in (("town", "town"), ("signs", "signs"), ("weights", "weights"), ("answer", "never")):
            for text, word in (("", 0), (" ", 0), (f" {right}", 0), (f"{right} ", 1), (f"{right} a", 1), ("x", 0),
                               (right[:-1], 0), (right + "s", 0), (right.upper(), 0)):
                self.check_wrong(kind, text, 0, word)
        for kind, title, missing in (("ways", "ways", 1), ("works", "works", 1), ("answer", "best", 1)):
            self.check_wrong(kind, title, 0, missing)
            self.check_wrong(kind, f"{title} ", 0, 1)
            self.check_wrong(kind, f"{title} A", 0, 1)
            self.check_wrong(kind, f"{title} {'a' if kind == 'ways' else 5} 5", 0, 2)

    def test_lines_that_are_missing(self):
        for text, line in (("never", 1), ("best 1", 1), ("best 1\nsigns", 2), ("best 1\nsigns\nsign r a b", 3),
                           ("best 1\nsigns\nways a", 3), ("best 1\nsigns\nways a\nout b r", 4),
                           ("best 1\nsigns\nways a\nout b r\nback b s", 5)):
            self.check_wrong("answer", text, line, 0)
        self.check_wrong("ways", "ways a\nout b r", 2, 0)

    def test_lines_too_many(self):
        self.check_wrong("town", "town\nsign r a b", 1, 0)
        self.check_wrong("signs", "signs\nsign r a b\nroad s a b 0 0", 2, 0)
        self.check_wrong("signs", "signs\n", 1, 0)
        self.check_wrong("weights", "weights\nweight 1 a\nsigns", 2, 0)
        self.check_wrong("ways", "ways a\nback b s", 1, 0)
        self.check_wrong("ways", "ways a\nout b r\nout c r", 2, 0)
        self.check_wrong("ways", "ways a\nout b r\nback b s\nback b s", 3, 0)
        self.check_wrong("answer", "never\nweights\nnever", 2, 0)
        self.check_wrong("answer", "best 0\nsigns\nways a\nweights\nweights", 4, 0)
        self.check_wrong("works", "works 1\nroad r a b 0 0\nsign r a b\nroad s a b 0 0", 3, 0)

    def test_signs(self):
        for lines, line, word in (
                ("sign s a b\nsign r a b", 2, 1), ("sign s a b\nsign s a b", 2, 1), ("sign r a a", 1, 3),
                ("sign r a", 1, 3), ("sign r", 1, 2), ("sign", 1, 1), ("sign r a b c", 1, 4), ("sign R a b", 1, 1),
                ("sign r A b", 1, 2), ("sign r a ", 1, 3), ("sign abcdefghi a b", 1, 1)):
            self.check_wrong("signs", f"signs\n{lines}", line, word)
            self.check_wrong("answer", f"best 1\nsigns\n{lines}", line + 1, word)

    def test_signs_of_works(self):
        roads = "works 1\nlane l a b\nroad r a b 0 0\nroad s b c 0 0\n"
        for lines, line, word in (
                ("sign s b c\nsign r a b", 5, 1), ("sign l a b", 4, 1), ("sign z a b", 4, 1), ("sign r c b", 4, 2),
                ("sign r a c", 4, 3), ("sign r a a", 4, 3), ("sign r b b", 4, 3), ("sign s c a", 4, 3),
                ("sign r c z", 4, 2), ("sign z c c", 4, 1), ("sign r z", 4, 2), ("sign r a", 4, 3),
                ("sign r a b\nsign r a b", 5, 1), ("sign r a b x", 4, 4)):
            self.check_wrong("works", roads + lines, line, word)

    def test_weights(self):
        for lines, line, word in (
                ("weight 1 b\nweight 1 a", 2, 2), ("weight 1 b\nweight 1 b", 2, 2), ("weight 1 a,b\nweight 1 c", 2, 2),
                ("weight 1 a,c\nweight 1 a,b", 2, 2), ("weight 1 b,a", 1, 2), ("weight 1 a,", 1, 2), ("weight 1", 1, 2),
                ("weight", 1, 1), ("weight a 1", 1, 1), ("weight 1 a 1", 1, 3), ("weight 0 a", 1, 1),
                ("weight 1 a b", 1, 3), ("weight 1 a,b,c,d,e,f,g,h", 1, 2)):
            self.check_wrong("weights", f"weights\n{lines}", line, word)
            self.check_wrong("answer", f"never\nweights\n{lines}", line + 1, word)
            self.check_wrong("answer", f"best 0\nsigns\nways a\nweights\n{lines}", line + 3, word)

    def test_ways(self):
        for lines, line, word in (
                ("out b r\nback c s", 2, 1), ("out b", 1, 2), ("out b r\nback b", 2, 2), ("out b r,r", 1, 2),
                ("out b r s r", 1, 4), ("out b r,s s", 1, 3), ("out b r s,t,r", 1, 3), ("out b r,", 1, 2),
                ("out b ,r", 1, 2), ("out b r ", 1, 3), ("out b  r", 1, 2), ("out a r", 1, 1), ("out", 1, 1),
                ("out b r\nback b s s", 2, 3), ("out c r\nback c s\nout b r\nback b s", 3, 1),
                ("out c r\nback c s\nout c r\nback c s", 3, 1), ("out b R", 1, 2), ("out b 1", 1, 2)):
            self.check_wrong("ways", f"ways a\n{lines}", line, word)
            self.check_wrong("answer", f"best 0\nsigns\nways a\n{lines}", line + 2, word)
        self.check_wrong("ways", "ways c\nout b r\nback b s", 1, 1)
        self.check_wrong("ways", "ways c\nout c r", 1, 1)

    def test_a_name_may_stand_in_two_lines(self):
        found = READERS["ways"]("ways a\nout b r s\nback b s,r\nout c r\nback c r")
        self.assertEqual([{"b": (("r",), ("s",)), "c": (("r",),)}, {"b": (("s", "r"),), "c": (("r",),)}], [
            found.out, found.back])


if __name__ == "__main__":
    unittest.main()
