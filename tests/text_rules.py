"""The document's rules of texts, told apart from the package: where the first word is that cannot stand.

Each rule is a pattern of a word, or a question that is asked of the words ahead of it in its line.
"""

import re

NAME = "[a-z]{1,8}"
NEED = "[1-9]|1[0-9]|20"
NUMBER = "[1-9][0-9]{0,59}"


def integer(most):
    return "0|-?[1-9][0-9]{0,%d}" % (most - 1)


def fits(rule, word, ahead):
    """Whether the word can stand behind the words ahead of it in its line."""
    if callable(rule):
        return rule(word, ahead)
    return re.fullmatch(rule, word) is not None


def wrong_word(words, rules, more=None):
    """The index of the first word that breaks its rule, is missing or too many; more is the rule of all further ones.
    """
    for at, rule in enumerate(rules):
        if at >= len(words) or not fits(rule, words[at], words[:at]):
            return at
    for at in range(len(rules), len(words)):
        if more is None or not fits(more, words[at], words[:at]):
            return at
    return None


def is_name(word):
    return re.fullmatch(NAME, word) is not None


def behind(name):
    """A name greater than this one, if there is one."""
    return lambda word, ahead: is_name(word) and (name is None or word > name)


def unlike_end(word, ahead):
    return is_name(word) and word != ahead[2]


def greater_end(word, ahead):
    return is_name(word) and word > ahead[2]


def street_rules(name):
    """The rules of the lines of streets behind the one of this name, by their first words."""
    return {
        "lane": ["lane", behind(name), NAME, unlike_end],
        "avenue": ["avenue", behind(name), NAME, greater_end],
        "road": ["road", behind(name), NAME, greater_end, integer(12), integer(12)],
    }


def wrong_in_street(words, name):
    rules = street_rules(name)
    return wrong_word(words, rules[words[0]]) if words[0] in rules else 0


def walk_word(word, ahead):
    names = [name for other in ahead[2:] for name in other.split(",")] + word.split(",")
    return all(is_name(name) for name in names) and len(set(names)) == len(names)


def ward_behind(last):
    def rule(word, ahead):
        corners = word.split(",")
        if not all(is_name(corner) for corner in corners) or sorted(set(corners)) != corners or len(corners) > 7:
            return False
        return last is None or (len(last), last) < (len(corners), corners)
    return rule


class Wrong(Exception):
    """A word that cannot stand."""


class Lines:
    """The lines of a text, read from the first to the last."""

    def __init__(self, text):
        self.rows = [line.split(" ") for line in text.split("\n")]
        self.at = 0

    def head(self):
        return self.rows[self.at][0] if self.at < len(self.rows) else None

    def take(self, rules, more=None):
        if self.at == len(self.rows):
            raise Wrong(self.at, 0)
        return self.checked(wrong_word(self.rows[self.at], rules, more))

    def checked(self, wrong):
        if wrong is not None:
            raise Wrong(self.at, wrong)
        self.at += 1
        return self.rows[self.at - 1]

    def streets(self):
        found, name = [], None
        while self.head() not in (None, "sign"):
            found.append(self.checked(wrong_in_street(self.rows[self.at], name)))
            name = found[-1][1]
        return found

    def signs(self, roads=None):
        name = None
        while self.head() == "sign":
            rules = ["sign", behind(name), NAME, unlike_end]
            if roads is not None:
                rules = ["sign", lambda word, ahead: behind(name)(word, ahead) and word in roads,
                         lambda word, ahead: word in roads[ahead[1]],
                         lambda word, ahead: word in roads[ahead[1]] and word != ahead[2]]
            name = self.take(rules)[1]

    def weights(self):
        self.take(["weights"])
        last = None
        while self.head() == "weight":
            last = self.take(["weight", NUMBER, ward_behind(last)])[2].split(",")

    def ways(self):
        last = self.take(["ways", NAME])[1]
        while self.head() == "out":
            last = self.take(["out", behind(last), walk_word], walk_word)[1]
            self.take(["back", last, walk_word], walk_word)

    def end(self):
        if self.at < len(self.rows):
            raise Wrong(self.at, 0)


def look_through(kind, lines):
    if kind == "town":
        lines.take(["town"])
        lines.streets()
    elif kind == "signs":
        lines.take(["signs"])
        lines.signs()
    elif kind == "weights":
        lines.weights()
    elif kind == "ways":
        lines.ways()
    elif kind == "works":
        lines.take(["works", NEED])
        lines.signs({words[1]: words[2:4] for words in lines.streets() if words[0] == "road"})
    elif lines.head() == "never":
        lines.take(["never"])
        lines.weights()
    else:
        lines.take(["best", integer(14)])
        lines.take(["signs"])
        lines.signs()
        lines.ways()
        lines.weights()
    lines.end()


def first_wrong(kind, text):
    """The pair of the line and the word of a text that cannot stand first; None if all can."""
    try:
        look_through(kind, Lines(text))
        return None
    except Wrong as wrong:
        return wrong.args
