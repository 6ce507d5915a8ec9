"""Towns, signs, weights, ways, answers and works, with their texts put together from their parts."""

import random

from signtown.best import Best, Never, cheapest
from signtown.signs import Signs
from signtown.streets import Avenue, Lane, Road
from signtown.towns import Town
from signtown.ways import Ways, ways_of
from signtown.weights import Weights
from signtown.works import Works
from plain_towns import PLAIN
from some_towns import complete, drawn_rounds, drawn_town, many_streets, mixed, ring_of, some_towns, triangle

# Names of corners and streets that are words of the texts, too.
WORDS = Town(Road("road", "sign", "signs", 999999999999, -999999999999), Road("sign", "best", "sign", -1, 0),
             Lane("town", "ways", "best"), Avenue("out", "ways", "sign"), Road("back", "road", "best"),
             Road("weight", "road", "signs"), Lane("lane", "works", "road"), Road("works", "ways", "works"))


def street_text(street):
    kind = type(street)
    if kind is Lane:
        return f"lane {street.name} {street.start} {street.goal}"
    if kind is Avenue:
        return f"avenue {street.name} {street.one} {street.other}"
    return f"road {street.name} {street.one} {street.other} {street.there} {street.back}"


def street_lines(town):
    return [street_text(street) for street in sorted(town, key=lambda street: street.name)]


def sign_lines(signs):
    return [f"sign {name} {start} {goal}" for name, (start, goal) in sorted(signs.parts.items())]


def weight_lines(weights):
    parts = sorted(weights.parts.items(), key=lambda part: (len(part[0]), part[0]))
    return [f"weight {number} {','.join(ward)}" for ward, number in parts]


def ways_lines(ways):
    lines = [f"ways {ways.root}"]
    for corner in sorted(ways.out):
        for head, walks in (("out", ways.out[corner]), ("back", ways.back[corner])):
            lines.append(" ".join([head, corner] + [",".join(walk) for walk in walks]))
    return lines


def answer_lines(answer):
    head = ["never"]
    if type(answer) is Best:
        head = [f"best {answer.cost}", "signs"] + sign_lines(answer.signs) + ways_lines(answer.ways)
    return head + ["weights"] + weight_lines(answer.weights)


def works_lines(works):
    return [f"works {works.need}"] + street_lines(works.town) + sign_lines(works.given)


def some_works():
    found = [Works(Town()), Works(Town(Avenue("x", "a", "b")), 20), Works(triangle()), Works(WORDS, 7)]
    draw = random.Random(50)
    for town in (triangle(), mixed(), complete(4), WORDS):
        for share in (0.3, 1):
            works = Works(town, draw.randint(1, 20))
            for name in town.roads:
                if draw.random() < share:
                    works[name] = draw.choice(town[name].ends)
            found.append(works)
    return found


def some_weights():
    long = {("a",): 1, ("b",): 10 ** 60 - 1, ("a", "b"): 12345678901234567890, ("a", "c"): 7, ("a", "b", "c"): 10,
            tuple("abcdefg"): 2, ("town", "weight"): 3, ("abcdefgh",): 9}
    return [Weights.none(), Weights({("a",): 5}), Weights(long)]


def some_ways():
    found = [ways_of(town, signs, need) for town, need, rows in PLAIN[:12] for signs in rows[:2]]
    return found + [Ways("a", {}, {}), Ways("out", {"ways": (("out", "back"), ("ways",))}, {"ways": (("best",),) * 1})]


def some_answers():
    draw = random.Random(51)
    towns = [triangle(), mixed(), complete(4), ring_of(5), WORDS, drawn_rounds(draw, 7, 2, (Road,), 12),
             drawn_rounds(draw, 4, 2, (Road, Lane, Avenue), 12), Town(Avenue("x", "a", "b"))]
    return [cheapest(town, need) for town in towns for need in (1, 2)] + [
        Never(Weights.none()), Best(99999999999999, Signs.none(), Ways("a", {}, {}), Weights.none()),
        Best(-99999999999999, Signs({"best": ("sign", "best")}), Ways("never", {}, {}), some_weights()[2])]


def some_of_all():
    """Rows of a kind, a thing of this kind, and its text."""
    draw = random.Random(52)
    towns = some_towns() + [Town(), WORDS, Town(*many_streets(14)), drawn_town(draw, 7, 14, (Road, Lane, Avenue), 12)]
    signs = [Signs.none(), Signs({"sign": ("town", "ways")}), Signs.cheap(mixed()),
             Signs.cheap(Town(*many_streets(14))), Signs({name: ("b", "a") for name in "abcdefghijklmn"})]
    rows = [("town", town, ["town"] + street_lines(town)) for town in towns]
    rows += [("signs", told, ["signs"] + sign_lines(told)) for told in signs]
    rows += [("weights", weights, ["weights"] + weight_lines(weights)) for weights in some_weights()]
    rows += [("ways", ways, ways_lines(ways)) for ways in some_ways()]
    rows += [("answer", answer, answer_lines(answer)) for answer in some_answers()]
    rows += [("works", works, works_lines(works)) for works in some_works()]
    return [(kind, thing, "\n".join(lines)) for kind, thing, lines in rows]
