"""signtown/texts.py and signtown/reader.py: texts, and what is read from them."""

import unittest

from signtown.best import Best, Never
from signtown.errors import BadSigns, BadText, BadTown, BadWeights, TooMany
from signtown.reader import read_answer, read_signs, read_town, read_ways, read_weights, read_works
from signtown.signs import Signs
from signtown.texts import answer_text, signs_text, town_text, ways_text, weights_text, works_text
from signtown.towns import Town
from signtown.ways import Ways
from signtown.weights import Weights
from signtown.works import Works
from some_texts import some_of_all
from some_towns import LETTERS, town_again, triangle
from values import Case, all_values, values_but

TEXTS = {"town": town_text, "signs": signs_text, "weights": weights_text, "ways": ways_text, "answer": answer_text,
         "works": works_text}
READERS = {"town": read_town, "signs": read_signs, "weights": read_weights, "ways": read_ways, "answer": read_answer,
           "works": read_works}
CLASSES = {"town": (Town,), "signs": (Signs,), "weights": (Weights,), "ways": (Ways,), "answer": (Best, Never),
           "works": (Works,)}


class TextTest(Case):
    def test_texts_are_put_together_from_the_parts(self):
        for kind, thing, text in some_of_all():
            self.check_same(text, self.check_stays(thing, TEXTS[kind], thing))

    def test_what_is_read_is_equal_and_is_written_as_the_same_text(self):
        for kind, thing, text in some_of_all():
            found = READERS[kind](text)
            self.assertIn(type(found), CLASSES[kind])
            self.check_equal(thing, found)
            self.check_same(text, TEXTS[kind](found))

    def test_by_name(self):
        for kind, thing, text in some_of_all():
            self.assertEqual(text, TEXTS[kind](**{kind: thing}))
            self.check_equal(thing, READERS[kind](text=text))

    def test_no_text_is_one_of_another_kind(self):
        for kind, _, text in some_of_all():
            for other, reader in READERS.items():
                if other != kind:
                    self.check_raises(BadText, {"line": 0, "word": 0}, reader, text)

    def test_the_same_text_for_equal_towns(self):
        self.assertEqual(town_text(triangle()), town_text(town_again(triangle())))

    def test_works_that_are_read_have_nothing_to_take_back(self):
        works = Works(triangle(), 3)
        works["r"] = "a"
        found = read_works(works_text(works))
        self.assertEqual([0, 1], [found.deeds, works.deeds])
        found["s"] = "b"
        self.assertEqual([1, "sign", 0], [found.deeds, found.undo(), found.deeds])

    def test_whether_an_answer_is_right_is_not_looked_at(self):
        text = "best 7\nsigns\nsign z y x\nways q\nout r z\nback r x,y\nweights\nweight 3 k"
        found = read_answer(text)
        self.assertEqual([7, {"z": ("y", "x")}, {("k",): 3}], [found.cost, found.signs.parts, found.weights.parts])
        self.assertEqual(["q", {"r": (("z",),)}, {"r": (("x", "y"),)}], [
            found.ways.root, found.ways.out, found.ways.back])
        self.assertEqual(text, answer_text(found))

    def test_refused(self):
        for value in values_but(Town):
            self.check_refused([value], BadTown, {"part": "town"}, town_text, value)
        for value in values_but(Signs):
            self.check_refused([value], BadSigns, {"part": "signs"}, signs_text, value)
        for value in values_but(Weights):
            self.check_refused([value], BadWeights, {"part": "weights"}, weights_text, value)

    def test_values_that_are_no_strings(self):
        for value in all_values():
            for reader in READERS.values():
                if not isinstance(value, str):
                    self.check_refused([value], BadText, {"line": 0, "word": 0}, reader, value)


class ManyTest(Case):
    def town_lines(self, streets, corners):
        """The lines of so many streets with so many corners."""
        return [f"lane {name} a {LETTERS[1 + at % (corners - 1)]}" for at, name in enumerate(LETTERS[:streets])]

    def check_town(self, error, fields, lines):
        for head, reader in (("town", read_town), ("works 1", read_works)):
            text = "\n".join([head] + lines)
            if error is None:
                self.assertEqual(text, TEXTS[head.split(" ")[0]](reader(text)))
            else:
                self.check_raises(error, fields, reader, text)

    def test_streets_and_corners(self):
        self.check_town(None, None, self.town_lines(14, 7))
        self.check_town(TooMany, {"what": "streets", "most": 14}, self.town_lines(15, 7))
        self.check_town(TooMany, {"what": "corners", "most": 7}, self.town_lines(14, 8))
        self.check_town(TooMany, {"what": "corners", "most": 7}, self.town_lines(26, 26))

    def test_a_wrong_word_is_told_ahead_of_too_many_streets(self):
        lines = self.town_lines(20, 9)
        self.check_town(BadText, {"line": 21, "word": 3}, lines + ["lane z a a"])
        self.check_town(BadText, {"line": 21, "word": 1}, lines + ["lane b a b"])
        self.check_town(BadText, {"line": 21, "word": 0}, lines + [""])
        roads = [f"road {name} a b 0 0" for name in LETTERS]
        text = "\n".join(["works 2"] + roads + ["sign a a b", "sign b b c"])
        self.check_raises(BadText, {"line": 28, "word": 3}, read_works, text)
        self.check_raises(TooMany, {"what": "streets", "most": 14}, read_works, text[:-len("\nsign b b c")])

    def test_signs(self):
        lines = [f"sign {name} a b" for name in LETTERS]
        self.assertEqual(14, len(read_signs("\n".join(["signs"] + lines[:14]))))
        ways = ["ways a", "weights"]
        for many in (15, 26):
            told = ["signs"] + lines[:many]
            self.check_raises(TooMany, {"what": "signs", "most": 14}, read_signs, "\n".join(told))
            self.check_raises(BadText, {"line": many + 1, "word": 0}, read_signs, "\n".join(told + ["sig"]))
            self.check_raises(TooMany, {"what": "signs", "most": 14}, read_answer, "\n".join(["best 0"] + told + ways))
            self.check_raises(BadText, {"line": many + 4, "word": 2}, read_answer,
                              "\n".join(["best 0"] + told + ways + ["weight 1 b,a"]))

    def test_wards(self):
        for ward, wanted in (("a,b,c,d,e,f,g", None), ("a,b,c,d,e,f,g,h", 2), ("a,a", 2), ("b,a", 2), ("", 2)):
            text = f"weights\nweight 1 {ward}"
            if wanted is None:
                self.assertEqual({tuple("abcdefg"): 1}, read_weights(text).parts)
            else:
                self.check_raises(BadText, {"line": 1, "word": wanted}, read_weights, text)

    def test_numbers(self):
        for number in (1, 9, 10 ** 59, 10 ** 60 - 1):
            self.assertEqual({("a",): number}, read_weights(f"weights\nweight {number} a").parts)
        for word in ("0", "-1", "01", str(10 ** 60), "1" * 1900, "+1", "1.", "a", "-0", "1e3", "1_0"):
            self.check_raises(BadText, {"line": 1, "word": 1}, read_weights, f"weights\nweight {word} a")
        rest = "\nsigns\nways a\nweights"
        for cost in (0, 1, -1, 10 ** 14 - 1, 1 - 10 ** 14):
            self.check_same(cost, read_answer(f"best {cost}{rest}").cost)
        for word in (str(10 ** 14), str(-10 ** 14), "-0", "00", "01", "+1", "", "-", "x", "1,0"):
            self.check_raises(BadText, {"line": 0, "word": 1}, read_answer, f"best {word}{rest}")
        for need in range(1, 21):
            self.check_same(need, read_works(f"works {need}").need)
        for word in ("0", "21", "-1", "01", "100", "", "x", "1" * 1900):
            self.check_raises(BadText, {"line": 0, "word": 1}, read_works, f"works {word}")


if __name__ == "__main__":
    unittest.main()
