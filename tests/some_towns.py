"""Towns and signs that several tests ask, and what the document's definitions make of them, street by street."""

import itertools

from signtown.signs import Signs
from signtown.streets import Avenue, Lane, Road
from signtown.towns import Town

LETTERS = "abcdefghijklmnopqrstuvwxyz"


def triangle():
    """Three roads, each at the price of nothing or of five."""
    return Town(Road("r", "b", "a", 5, 0), Road("s", "b", "c", 0, 5), Road("t", "a", "c", back=5))


def mixed():
    """Streets of all kinds, several between the same corners, in both directions."""
    return Town(
        Road("r", "a", "b", 3, -4), Road("s", "b", "a", 7, 7), Road("t", "b", "c", 1, 2), Road("u", "d", "c", 0, 9),
        Lane("l", "a", "b"), Lane("m", "b", "a"), Lane("n", "d", "b"),
        Avenue("x", "a", "b"), Avenue("y", "c", "d"), Avenue("w", "d", "c"))


def some_towns():
    """Towns of one kind of streets and of all of them, with two to five corners."""
    return [
        triangle(),
        mixed(),
        Town(Road("r", "a", "b", 1, 1)),
        Town(Lane("l", "a", "b")),
        Town(Avenue("x", "a", "b")),
        Town(Lane("l", "a", "b"), Lane("m", "c", "b"), Lane("n", "c", "a"), Avenue("x", "d", "e")),
        Town(Road("e", "a", "b"), Road("f", "a", "b"), Road("g", "b", "a"), Road("h", "c", "a")),
        triangle() | Avenue("x", "c", "d") | Lane("l", "d", "e") | Road("e", "e", "a"),
    ]


def many_streets(many):
    """So many streets between a and b, of all kinds by turns."""
    makers = [Lane, Avenue, Road]
    return [makers[at % 3](LETTERS[at], "a", "b") for at in range(many)]


def star(many):
    """A road from a to each of so many corners."""
    return [Road(LETTERS[at], "a", LETTERS[at]) for at in range(1, many + 1)]


def ring_of(many, kind=Road):
    """So many streets of a kind round in a ring."""
    ends = LETTERS[:many]
    return Town(*[kind(LETTERS[at], ends[at], ends[(at + 1) % many]) for at in range(many)])


def complete(many):
    """A road between each two of so many corners, at prices of their own."""
    pairs = list(itertools.combinations(LETTERS[:many], 2))
    return Town(*[Road(LETTERS[at], *pair, 3 * at % 7, 5 * at % 11 - 4) for at, pair in enumerate(pairs)])


def drawn_street(draw, name, corners, kinds, digits):
    """A street of one of the kinds between two of the corners, its prices of so many digits."""
    one, other = draw.sample(corners, 2)
    kind = draw.choice(kinds)
    if kind is Road:
        most = 10 ** digits - 1
        return Road(name, one, other, draw.randint(-most, most), draw.randint(-most, most))
    return kind(name, one, other)


def drawn_town(draw, corners, streets, kinds, digits=1):
    """A town with just so many corners and streets, drawn by a random.Random."""
    while True:
        town = Town(*[drawn_street(draw, LETTERS[at], LETTERS[:corners], kinds, digits) for at in range(streets)])
        if len(town.corners) == corners:
            return town


def drawn_rounds(draw, corners, rounds, kinds, digits=1):
    """Some rounds through all corners one upon the other, so that there are good signs more often."""
    streets = []
    for _ in range(rounds):
        tour = draw.sample(LETTERS[:corners], corners)
        for one, other in zip(tour, tour[1:] + tour[:1]):
            streets.append(drawn_street(draw, LETTERS[len(streets)], [one, other], kinds, digits))
    return Town(*streets)


def town_again(town):
    """An equal town made in another order, of streets told the other way round."""
    found = []
    for street in town.streets[::-1]:
        if isinstance(street, Road):
            found.append(Road(street.name, street.other, street.one, street.back, street.there))
        elif isinstance(street, Avenue):
            found.append(Avenue(street.name, street.other, street.one))
        else:
            found.append(Lane(street.name, street.start, street.goal))
    return Town(*found)


def signs_again(signs):
    """Equal signs made in another order."""
    return Signs({name: signs.parts[name] for name in signs.names[::-1]})


def directions(town, signs):
    """For each street the pairs (from, to) of corners along which it leads."""
    found = {}
    for street in town:
        one, other = street.ends
        if isinstance(street, Lane):
            found[street.name] = [(street.start, street.goal)]
        elif isinstance(street, Avenue):
            found[street.name] = [(one, other), (other, one)]
        else:
            found[street.name] = [signs.parts[street.name]] if signs is not None else []
    return found


def all_signs(town):
    """All signs that fit the town."""
    roads = [street for street in town if isinstance(street, Road)]
    both = [[(road.one, road.other), (road.other, road.one)] for road in roads]
    return [Signs(dict(zip([road.name for road in roads], pairs))) for pairs in itertools.product(*both)]


def texts(town):
    """The texts of the streets of what must be a Town."""
    assert type(town) is Town
    return [str(street) for street in town]
