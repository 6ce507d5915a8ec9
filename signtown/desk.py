"""A desk: works told by lines, each of which has an answer."""

from signtown.choices import choice, sure_signs
from signtown.counts import count_span
from signtown.errors import BadLine, BadText, NoDeed, NoSigns
from signtown.figures import is_need_word
from signtown.greatest import greatest
from signtown.moves import Turn
from signtown.names import is_name
from signtown.streets import Street
from signtown.texts import works_text
from signtown.towns import Town
from signtown.words import Words
from signtown.works import Works

NONE = "none"


def listed(parts):
    """The parts in one line."""
    return ", ".join(parts) if parts else "-"


def signs_told(signs):
    """Signs in one line."""
    return listed([f"{name} {signs[name]}" for name in signs])


def put_street(works, street):
    """How many streets there are with this one."""
    return str(works.put(street))


def shut_street(works, name):
    """The text of the street that is taken out."""
    return str(works.shut(name))


def give_sign(works, name, goal):
    """Gives a sign."""
    works[name] = goal
    return "ok"


def take_sign_back(works, name):
    """The corner to which the sign led that is taken back."""
    return works.take(name)


def turn_walk(works, start, goal, *names):
    """Turns a walk."""
    works.turn_about(Turn(names, start, goal))
    return "ok"


def change_need(works, word):
    """Another need."""
    works.set_need(int(word))
    return "ok"


def fill_signs(works):
    """How many signs were not given."""
    return str(works.fill())


def take_back(works):
    """The word of the deed that is taken back."""
    try:
        return works.undo()
    except NoDeed:
        return "nothing"


def tell_plan(works):
    """The cheapest fitting signs."""
    try:
        return signs_told(works.finished())
    except NoSigns:
        return NONE


def tell_price(works):
    """The least price of fitting signs."""
    try:
        return str(works.price())
    except NoSigns:
        return NONE


def tell_weights(works):
    """The weights that show the answer."""
    weights = works.answer().weights
    return listed([f"{ward} {weights[ward]}" for ward in weights])


def tell_sure(works):
    """The signs that all cheapest fitting signs share."""
    try:
        return signs_told(works.given | sure_signs(works.settled_town(), works.need))
    except NoSigns:
        return NONE


def tell_gap(works, name):
    """What the sign to the greater end costs more than that to the lesser one."""
    town = works.settled_town()
    told = choice(town, works.need, name)
    gap, only = told.gap(town), told.settles(town)
    if gap is not None:
        return str(gap)
    return NONE if only is None else f"only {only}"


def tell_count(works, corner):
    """The least and the greatest in-count of the corner."""
    span = count_span(works.settled_town(), works.need, corner)
    if not span:
        return NONE
    # In the settled town the given signs are lanes, which do not count.
    given = works.given
    many = given(corner)
    return f"{span.least + many} to {span.most + many}"


def tell_greatest(works):
    """The greatest need for which there are fitting signs."""
    return str(greatest(works.settled_town()).number)


def tell_verdict(works):
    """Whether the given signs are good."""
    verdict = works.judge()
    return "good" if verdict else f"short {verdict.ward}"


def tell_works(works):
    """The text of the works in one line."""
    return works_text(works).replace("\n", " ; ")


ACTIONS = {
    "put": put_street, "shut": shut_street, "sign": give_sign, "take": take_sign_back, "turn": turn_walk,
    "need": change_need, "fill": fill_signs, "undo": take_back, "plan": tell_plan, "price": tell_price,
    "why": tell_weights, "sure": tell_sure, "gap": tell_gap, "count": tell_count, "greatest": tell_greatest,
    "judge": tell_verdict, "works": tell_works,
}
# For each first word of a line but those of streets the kinds of the words behind it; a turn may have more names.
SHAPES = {
    "shut": ("name",), "sign": ("name", "name"), "take": ("name",), "turn": ("name", "name", "name"),
    "need": ("need",), "fill": (), "undo": (), "plan": (), "price": (), "why": (), "sure": (), "gap": ("name",),
    "count": ("name",), "greatest": (), "judge": (), "works": (),
}


def read_words(line):
    """The list of the words of a line that is not that of a street; raises BadText as a reader does."""
    words = Words([line])
    head = words.take(lambda word: word in SHAPES)
    told = []
    for kind in SHAPES[head]:
        told.append(words.take(is_need_word if kind == "need" else is_name))
    while head == "turn" and not words.is_line_read():
        told.append(words.take(lambda word: is_name(word) and word not in told[2:]))
    words.end_line()
    return [head, *told]


def read_line(line):
    """The list of the word of an action and of what is told to it, by any value."""
    if not isinstance(line, str):
        raise BadLine(0)
    try:
        if line.split(" ")[0] in Street.KINDS:
            return ["put", Street.read(line)]
        return read_words(line)
    except BadText as wrong:
        raise BadLine(wrong.word) from None


def answer_to(works, line):
    """Does a line, any value, and returns its answer."""
    head, *told = read_line(line)
    action = ACTIONS[head]
    return action(works, *told)


class Desk:
    """Works told by lines; at first of a town without streets, for the need 1."""

    def __init__(self):
        self._works = Works(Town())

    def say(self, line):
        """Does a line, any value, and returns its answer."""
        return answer_to(self._works, line)

    def __call__(self, line):
        return answer_to(self._works, line)

    def run(self, *lines):
        """The list of the answers to all lines; if one raises an error, the desk is as it was."""
        return self._works.attempt(lambda works: [answer_to(works, line) for line in lines])

    def works_now(self):
        """A twin of the works."""
        return self._works.twin()

    def __len__(self):
        return len(self._works.past)
