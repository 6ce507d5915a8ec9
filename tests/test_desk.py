"""signtown/desk.py: each line of a desk, right and spoilt, and what it does."""

import random
import unittest

from signtown.desk import Desk
from signtown.errors import (
    BadLine, Empty, NoCorner, NoRoad, NoSign, NoSigns, NoStreet, NotAlong, TooMany, TownError)
from signtown.moves import Turn
from signtown.streets import Street
from signtown.texts import works_text
from signtown.towns import Town
from signtown.works import Works
from some_towns import LETTERS
from text_rules import NAME, NEED, is_name, wrong_in_street, wrong_word
from values import Case, all_values, shown

TRIANGLE = ("road r a b 0 5", "road s b c 0 5", "road t a c 0 5")
QUESTIONS = ("plan", "price", "why", "sure", "greatest")


def new_name(word, ahead):
    """A name that stands nowhere among the names of a turn."""
    return is_name(word) and word not in ahead[3:]


RULES = {
    "shut": ["shut", NAME], "sign": ["sign", NAME, NAME], "take": ["take", NAME],
    "turn": ["turn", NAME, NAME, new_name], "need": ["need", NEED], "fill": ["fill"], "undo": ["undo"],
    "plan": ["plan"], "price": ["price"], "why": ["why"],
    "sure": ["sure"], "gap": ["gap", NAME], "count": ["count", NAME], "greatest": ["greatest"], "judge": ["judge"],
    "works": ["works"],
}
RIGHT = [
    "road q a b -3 4", "lane l a b", "avenue x b c", "shut s", "sign r a", "take r", "turn a b r", "turn a a r s t",
    "need 1", "need 20", "fill", "undo", "plan", "price", "why", "sure", "gap r", "count a", "greatest", "judge",
    "works",
    "sign sign turn", "turn turn turn turn take undo", "shut shut", "take take", "gap gap", "count count",
    "road road road sign 0 0", "lane lane works plan", "avenue avenue price why",
]


def wrong_in_line(line):
    """The index of the first word of a line that cannot stand; None if all can."""
    words = line.split(" ")
    if words[0] in ("lane", "avenue", "road"):
        return wrong_in_street(words, None)
    if words[0] not in RULES:
        return 0
    return wrong_word(words, RULES[words[0]], new_name if words[0] == "turn" else None)


def triangle_desk(*lines):
    desk = Desk()
    desk.run(*TRIANGLE, *lines)
    return desk


class LinesTest(Case):
    def check_line(self, desk, line):
        """A line that cannot stand is told, and one that is refused changes nothing; whether all words can stand."""
        wrong, before = wrong_in_line(line), shown(desk)
        if wrong is not None:
            for call in (desk.say, desk):
                self.check_raises(BadLine, {"word": wrong}, call, line)
            self.assertEqual(before, shown(desk))
            return False
        try:
            self.assertIs(str, type(desk.say(line)))
        except TownError as error:
            self.assertNotIsInstance(error, BadLine)
            self.assertEqual(before, shown(desk))
        return True

    def test_right_lines(self):
        for line in RIGHT:
            for desk in (Desk(), triangle_desk(), triangle_desk("sign r b", "sign t a", "fill")):
                self.assertIs(True, self.check_line(desk, line))

    def test_spoilt_words(self):
        draw = random.Random(60)
        many = {True: 0, False: 0}
        words = [word for line in RIGHT for word in line.split(" ")]
        words += ["", "A", "0", "21", "abcdefghi", "a,b", "-", "01"]
        for line in RIGHT:
            for _ in range(80):
                told = line.split(" ")
                at = draw.randrange(len(told))
                change = draw.randrange(5)
                if change == 0:
                    del told[at]
                elif change == 1:
                    told.insert(at, told[at])
                elif change == 2:
                    told[at], told[0] = told[0], told[at]
                elif change == 3:
                    told[at] = draw.choice(words)
                else:
                    told.insert(draw.randrange(len(told) + 1), draw.choice(words))
                many[self.check_line(triangle_desk("sign r b"), " ".join(told))] += 1
        self.assertGreater(min(many.values()), 200)

    def test_spoilt_letters(self):
        draw = random.Random(61)
        for line in RIGHT:
            for _ in range(40):
                at = draw.randrange(len(line) + 1)
                letter = draw.choice("abz -019\n~,;A")
                more = draw.randrange(2)
                self.check_line(triangle_desk(), line[:at] + letter + line[at + more:])

    def test_plain_cases(self):
        for line, word in (
                ("", 0), (" ", 0), ("plans", 0), ("Plan", 0), (" plan", 0), ("plan ", 1), ("plan plan", 1),
                ("undo 1", 1),
                ("shut", 1), ("shut R", 1), ("shut r s", 2), ("sign r", 2), ("sign", 1), ("sign r a b", 3), ("take", 1),
                ("turn", 1), ("turn a", 2), ("turn a b", 3), ("turn a b r r", 4), ("turn a b r s r", 5),
                ("turn a b r  s", 4), ("turn a b r s ", 5), ("turn 1 b r", 1), ("need", 1), ("need 0", 1),
                ("need 21", 1),
                ("need 01", 1), ("need one", 1), ("need 1 2", 2), ("gap", 1), ("gap r s", 2), ("count", 1),
                ("put r", 0),
                ("road r b a 0 0", 3), ("road r a b 0", 5), ("lane r a a", 3), ("avenue r a b c", 4), ("road", 1),
                ("street r a b", 0), ("works 1", 1), ("plan\n", 0), ("shut r\n", 1), ("need 1\n", 1), ("\nplan", 0),
                ("road r a b 0 0\n", 5), ("turn a b r\ns", 3), ("town", 0), ("none", 0), ("sign r a\nplan", 2)):
            self.assertEqual(word, wrong_in_line(line))
            self.assertIs(False, self.check_line(triangle_desk(), line))

    def test_values_of_all_kinds(self):
        for value in all_values():
            desk = triangle_desk("sign r a")
            before = shown(desk)
            wanted = wrong_in_line(value) if isinstance(value, str) else 0
            if wanted is None:
                self.assertEqual("lane a b c", value)
                continue
            for call in (desk.say, desk, desk.run):
                self.check_refused([value], BadLine, {"word": wanted}, call, value)
            self.assertEqual(before, shown(desk))


class DoneTest(Case):
    def test_what_lines_do(self):
        desk, works = Desk(), Works(Town())
        for line, call in (
                ("road r a b 0 5", lambda: str(works.put(Street.read("road r a b 0 5")))),
                ("lane s b c", lambda: str(works.put(Street.read("lane s b c")))),
                ("road s b c 0 5", lambda: str(works.put(Street.read("road s b c 0 5")))),
                ("road t a c 0 5", lambda: str(works.put(Street.read("road t a c 0 5")))),
                ("avenue x a b", lambda: str(works.put(Street.read("avenue x a b")))),
                ("shut x", lambda: str(works.shut("x"))),
                ("sign r b", lambda: works.__setitem__("r", "b") or "ok"),
                ("sign s c", lambda: works.__setitem__("s", "c") or "ok"),
                ("turn a c r s", lambda: works.turn_about(Turn(("r", "s"), "a", "c")) or "ok"),
                ("turn c b s", lambda: works.turn_about(Turn(("s",), "c", "b")) or "ok"),
                ("turn b b s r", None), ("take s", lambda: works.take("s")),
                ("need 3", lambda: works.set_need(3) or "ok"), ("undo", lambda: works.undo()),
                ("fill", lambda: str(works.fill())), ("fill", lambda: str(works.fill())),
                ("turn a a t s r", lambda: works.turn_about(Turn(("t", "s", "r"), "a", "a")) or "ok"),
                ("shut t", lambda: str(works.shut("t")))):
            before = shown(desk)
            if call is None:
                self.check_raises(NotAlong, {"name": "r"}, desk.say, line)
                self.assertEqual(before, shown(desk))
                continue
            self.assertEqual(call(), desk.say(line), line)
            self.check_equal(works, desk.works_now())
            self.check_same(works.deeds, len(desk))
            self.assertEqual(works_text(works).replace("\n", " ; "), desk.say("works"))

    def test_answers(self):
        desk = Desk()
        self.assertEqual(["nothing", "works 1", "nothing"], desk.run("undo", "works", "undo"))
        self.assertEqual(["1", "2", "3", "4"], desk.run(*TRIANGLE, "lane l c a"))
        self.assertEqual(["ok", "b", "lane l c a", "ok", "3", "good", "fill", "need"], desk.run(
            "sign r b", "take r", "shut l", "need 1", "fill", "judge", "undo", "undo"))
        self.assertEqual(["shut", "take", "sign", "put", "put", "put", "put", "nothing"], desk.run(*["undo"] * 8))
        self.assertEqual(0, len(desk))

    def test_undo_takes_back_the_last_line(self):
        desk = triangle_desk("sign r b", "turn a b r", "fill", "need 2", "take r", "shut r", "lane l a b")
        for left, word in zip(range(9, -1, -1), ["put", "shut", "take", "need", "fill", "turn", "sign"] + ["put"] * 3):
            self.assertEqual(word, desk("undo"))
            self.check_same(left, len(desk))
        self.assertEqual(["nothing", "nothing"], [desk("undo"), desk.say("undo")])
        self.check_equal(Works(Town()), desk.works_now())

    def test_say_and_the_call_are_alike(self):
        one, other = Desk(), Desk()
        for line in [*TRIANGLE, *RIGHT]:
            told = []
            for call in (one.say, other):
                try:
                    told.append(call(line))
                except TownError as error:
                    told.append((type(error), vars(error)))
            self.assertEqual(told[0], told[1])
            self.assertEqual(shown(one), shown(other))
        self.assertEqual("1", Desk().say(line="lane l a b"))
        self.assertEqual("1", Desk()(line="lane l a b"))

    def test_works_now_is_a_twin(self):
        desk = triangle_desk("sign r b")
        works = desk.works_now()
        self.assertEqual([Works, 0, 4], [type(works), works.deeds, len(desk)])
        before = shown(desk)
        works.shut("r")
        self.assertEqual(before, shown(desk))
        desk.say("shut s")
        self.assertEqual(("s", "t"), works.town.names)


class RefusedTest(Case):
    def check_refused_lines(self, desk, rows):
        for line, error, fields in rows:
            before = shown(desk)
            for call in (desk.say, desk, desk.run):
                self.check_raises(error, fields, call, line)
            self.assertEqual(before, shown(desk))

    def test_lines_that_are_refused(self):
        self.check_refused_lines(triangle_desk("lane l a b", "sign r b"), [
            ("shut z", NoStreet, {"name": "z"}), ("shut a", NoStreet, {"name": "a"}),
            ("sign z a", NoRoad, {"name": "z"}), ("sign l a", NoRoad, {"name": "l"}),
            ("sign r c", NoCorner, {"name": "c"}),
            ("sign z z", NoRoad, {"name": "z"}), ("take s", NoSign, {"name": "s"}), ("take l", NoSign, {"name": "l"}),
            ("turn a c r s", NotAlong, {"name": "s"}), ("turn b a r", NotAlong, {"name": "r"}),
            ("turn a c r", NotAlong, {"name": "r"}), ("turn q q z", NotAlong, {"name": "z"}),
            ("turn a b l", NotAlong, {"name": "l"}), ("judge", NoSign, {"name": "s"}),
            ("gap z", NoRoad, {"name": "z"}), ("gap l", NoRoad, {"name": "l"}), ("gap r", NoRoad, {"name": "r"}),
            ("count z", NoCorner, {"name": "z"}), ("count r", NoCorner, {"name": "r"}),
        ])
        self.check_refused_lines(triangle_desk("need 2"), [("fill", NoSigns, {})])

    def test_too_many(self):
        full = [f"lane {name} a {LETTERS[1 + at % 6]}" for at, name in enumerate(LETTERS[:14])]
        desk = Desk()
        self.assertEqual([str(at) for at in range(1, 15)], desk.run(*full))
        self.check_refused_lines(desk, [
            ("lane z a z", TooMany, {"what": "corners", "most": 7}),
            ("lane z a b", TooMany, {"what": "streets", "most": 14}),
            ("road b a z 0 0", TooMany, {"what": "corners", "most": 7}),
        ])
        self.assertEqual("14", desk("road b a b 0 0"))

    def test_towns_without_streets(self):
        lines = [*QUESTIONS, "gap z", "gap gap", "count z", "fill", "judge"]
        self.check_refused_lines(Desk(), [(line, Empty, {}) for line in lines])
        self.check_refused_lines(triangle_desk("shut r", "shut s", "shut t"), [(line, Empty, {}) for line in lines])


class RunTest(Case):
    def test_a_wrong_line_at_each_place(self):
        lines = ["sign r b", "need 2", "undo", "undo", "undo", "undo", "lane l a b", "price", "shut r"]
        for wrong, error, fields in (("plans", BadLine, {"word": 0}), (None, BadLine, {"word": 0}),
                                     ("sign zz a", NoRoad, {"name": "zz"}), ("shut zz", NoStreet, {"name": "zz"})):
            for at in range(len(lines) + 1):
                desk = triangle_desk("sign t a")
                before = shown(desk)
                self.check_raises(error, fields, desk.run, *lines[:at], wrong, *lines[at:])
                self.assertEqual(before, shown(desk))
                self.assertEqual([4, "sign", "put"], [len(desk), desk("undo"), desk("undo")])

    def test_the_list_of_the_answers(self):
        desk, other = Desk(), Desk()
        lines = [*TRIANGLE, "price", "plan", "sign t c", "plan", "undo", "why", "sure", "fill", "judge", "works"]
        answers = desk.run(*lines)
        self.assertEqual([list, [other.say(line) for line in lines]], [type(answers), answers])
        self.assertEqual(shown(desk), shown(other))
        self.assertEqual([], desk.run())
        self.assertEqual(len(desk), len(other))

    def test_all_is_taken_back_if_the_last_line_is_wrong(self):
        desk = Desk()
        with self.assertRaises(Empty):
            desk.run(*TRIANGLE, "undo", "undo", "undo", "undo", "price")
        self.assertEqual([0, "works 1", "nothing"], [len(desk), desk("works"), desk("undo")])
        with self.assertRaises(NoSigns):
            desk.run(*TRIANGLE, "need 2", "fill")
        self.assertEqual([0, "works 1"], [len(desk), desk("works")])


if __name__ == "__main__":
    unittest.main()
