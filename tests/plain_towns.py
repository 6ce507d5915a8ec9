"""Plain towns that several tests ask, with good signs of them."""

import random

from signtown.signs import Signs
from signtown.streets import Road
from signtown.towns import Town
from by_definition import good_by_counts, least_prices
from some_towns import LETTERS, all_signs, complete, drawn_rounds, ring_of, triangle

RING = Signs({"r": ("a", "b"), "s": ("b", "c"), "t": ("c", "a")})
THREE = Town(Road("e", "a", "b"), Road("f", "a", "b"), Road("g", "a", "b"))
ONE = Signs({"e": ("a", "b"), "f": ("a", "b"), "g": ("b", "a")})


def plain_towns():
    """Plain towns, each with a need and some good signs for it."""
    draw = random.Random(21)
    towns = [triangle(), THREE, complete(4), ring_of(5), Town(*[Road(name, "a", "b") for name in LETTERS[:7]])]
    towns += [drawn_rounds(draw, corners, rounds, (Road,)) for corners, rounds in (
        (3, 2), (3, 3), (4, 2), (4, 3), (5, 2), (3, 4))]
    found = []
    for town in towns:
        rows = all_signs(town)
        rows = rows if len(rows) < 500 else draw.sample(rows, 500)
        for need in sorted(least_prices(town)):
            right = [signs for signs in rows if good_by_counts(town, signs, need)]
            found.append((town, need, draw.sample(right, min(len(right), 8))))
    return found


PLAIN = plain_towns()
