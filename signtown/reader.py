"""Reads the texts of towns, signs, weights, ways, answers and works.

All lines are read before anything is made of them: a word that cannot stand is told ahead of what the parts raise.
"""

from signtown.best import Best, Never
from signtown.errors import BadText
from signtown.figures import is_need_word, is_number_word
from signtown.names import is_name
from signtown.signs import Signs
from signtown.streets import Road, Street, first_wrong
from signtown.towns import Town
from signtown.wards import is_ward_text
from signtown.ways import Ways, has_no_twice
from signtown.weights import Weights
from signtown.words import Words
from signtown.works import Works

COST_DIGITS = 14
WEIGHT_DIGITS = 60


def words_of(text):
    """The Words of a text, any value."""
    if not isinstance(text, str):
        raise BadText(0, 0)
    return Words(text.split("\n"))


def take_title(words, title):
    """Reads a line that is this word alone."""
    words.take_head(title)
    words.end_line()


def is_behind(word, ahead):
    """Whether a word is a name that is greater than the one ahead; "" stands for none."""
    return is_name(word) and word > ahead


def first_wrong_behind(words, ahead):
    """The index of the first word that cannot stand in the line of a street behind the one of this name, or None."""
    wrong = first_wrong(words, Street.KINDS)
    if wrong in (0, 1) or is_behind(words[1], ahead):
        return wrong
    return 1


def take_streets(words):
    """The list of the streets up to the first sign, or to the end."""
    streets = []
    ahead = ""
    while not words.is_read() and not words.begins("sign"):
        row = words.take_line(lambda told: first_wrong_behind(told, ahead))
        streets.append(Street.read(" ".join(row)))
        ahead = streets[-1].name
    return streets


def is_end(roads, name, word):
    """Whether a word can be an end of a road: of the one of this name if roads is a dict of ends, and no None."""
    return is_name(word) and (roads is None or word in roads[name])


def take_sign(words, ahead, roads):
    """The name of a road, and the pair of the corners from where to where its sign leads."""
    words.take_head("sign")
    name = words.take(lambda word: is_behind(word, ahead) and (roads is None or word in roads))
    start = words.take(lambda word: is_end(roads, name, word))
    goal = words.take(lambda word: is_end(roads, name, word) and word != start)
    words.end_line()
    return name, (start, goal)


def take_signs(words, roads):
    """The parts of signs: for the roads in a dict from names to ends alone, or for any if it is None."""
    parts = {}
    ahead = ""
    while words.begins("sign"):
        ahead, pair = take_sign(words, ahead, roads)
        parts[ahead] = pair
    return parts


def take_titled_signs(words):
    """The parts of signs, with the line ahead of them."""
    take_title(words, "signs")
    return take_signs(words, None)


def is_weight_word(word):
    """Whether a word is a weight."""
    return is_number_word(word, WEIGHT_DIGITS) and int(word) >= 1


def is_ward_behind(word, ahead):
    """Whether a word is the text of a ward that comes behind the one with these corners."""
    if not is_ward_text(word):
        return False
    corners = tuple(word.split(","))
    return (len(corners), corners) > (len(ahead), ahead)


def take_weight(words, ahead):
    """The corners of a ward, which comes behind the one ahead, and its weight."""
    words.take_head("weight")
    number = words.take(is_weight_word)
    ward = words.take(lambda word: is_ward_behind(word, ahead))
    words.end_line()
    return tuple(ward.split(",")), int(number)


def take_weights(words):
    """The parts of weights, with the line ahead of them."""
    take_title(words, "weights")
    parts = {}
    ahead = ()
    while words.begins("weight"):
        ahead, number = take_weight(words, ahead)
        parts[ahead] = number
    return parts


def is_walk_word(word, names):
    """Whether a word is a walk without these names, and without a name twice."""
    walk = word.split(",")
    return all([is_name(name) and name not in names for name in walk]) and has_no_twice(walk)


def take_bundle(words, head, can_stand):
    """A corner, of which can_stand tells whether it can, and the tuple of at least one walk."""
    words.take_head(head)
    corner = words.take(can_stand)
    walks = []
    names = []
    while not walks or not words.is_line_read():
        walk = words.take(lambda word: is_walk_word(word, names)).split(",")
        walks.append(tuple(walk))
        names = names + walk
    words.end_line()
    return corner, tuple(walks)


def take_ways(words):
    """Ways."""
    words.take_head("ways")
    root = words.take(is_name)
    words.end_line()
    out, back = {}, {}
    ahead = root
    while words.begins("out"):
        ahead, walks = take_bundle(words, "out", lambda word: is_behind(word, ahead))
        out[ahead] = walks
        _, walks = take_bundle(words, "back", lambda word: word == ahead)
        back[ahead] = walks
    return Ways(root, out, back)


def read_town(text):
    """The Town with this text."""
    words = words_of(text)
    take_title(words, "town")
    streets = take_streets(words)
    words.end()
    return Town(*streets)


def read_signs(text):
    """The Signs with this text."""
    words = words_of(text)
    parts = take_titled_signs(words)
    words.end()
    return Signs(parts)


def read_weights(text):
    """The Weights with this text."""
    words = words_of(text)
    parts = take_weights(words)
    words.end()
    return Weights(parts)


def read_ways(text):
    """The Ways with this text."""
    words = words_of(text)
    ways = take_ways(words)
    words.end()
    return ways


def read_best(words):
    """The Best that these words tell."""
    words.take_head("best")
    cost = words.take(lambda word: is_number_word(word, COST_DIGITS))
    words.end_line()
    parts = take_titled_signs(words)
    ways = take_ways(words)
    weights = take_weights(words)
    words.end()
    return Best(int(cost), Signs(parts), ways, Weights(weights))


def read_never(words):
    """The Never that these words tell."""
    take_title(words, "never")
    weights = take_weights(words)
    words.end()
    return Never(Weights(weights))


def read_answer(text):
    """The Best or the Never with this text."""
    words = words_of(text)
    if words.begins("never"):
        return read_never(words)
    return read_best(words)


def read_works(text):
    """The Works with this text."""
    words = words_of(text)
    words.take_head("works")
    need = words.take(is_need_word)
    words.end_line()
    streets = take_streets(words)
    roads = {street.name: street.ends for street in streets if isinstance(street, Road)}
    parts = take_signs(words, roads)
    words.end()
    works = Works(Town(*streets), int(need))
    works.give(Signs(parts))
    # The twin has nothing to take back.
    return works.twin()
