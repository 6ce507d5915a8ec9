"""From good signs to any other good ones of a plain town by turned walks and rings, with good signs all the way."""

from signtown.errors import NotAlong
from signtown.goods import short_ward
from signtown.leads import in_counts
from signtown.moves import Turn, check_both, exchange
from signtown.papers import same
from signtown.signs import Signs
from signtown.ways import has_no_twice


class Step:
    """A turn, and the signs behind it."""

    def __init__(self, turn, signs):
        self.turn = turn
        self.signs = signs

    def __eq__(self, other):
        return isinstance(other, Step) and same(self.turn, other.turn) and same(self.signs, other.signs)


def fewest_turns(town, signs, other):
    """Half the sum of the differences of in-counts: each turn that is no ring makes up for two of them at most."""
    now, wanted = in_counts(town, signs), in_counts(town, other)
    return sum([abs(now[corner] - wanted[corner]) for corner in town.corners]) // 2


def first_lacking(town, signs, other):
    """The first corner with less in signs than in other; None if the in-counts are alike."""
    for corner in town.corners:
        if signs(corner) < other(corner):
            return corner
    return None


def count_turns(town, signs, other, need):
    """A list of turns that are no rings, as few as can be, behind which the in-counts are those of other."""
    turns = []
    now = signs
    corner = first_lacking(town, now, other)
    while corner is not None:
        turn = exchange(town, now, other, need, corner)
        turns.append(turn)
        now = turn(now)
        corner = first_lacking(town, now, other)
    return turns


def ring_along(signs, names):
    """A Turn round along some of these roads, just as many of which lead to each corner as from it."""
    start = signs.tail(names[0])
    walk = [names[0]]
    at = signs[names[0]]
    while at != start:
        onward = [name for name in names if name not in walk and signs.tail(name) == at]
        walk.append(onward[0])
        at = signs[onward[0]]
    return Turn(tuple(walk), start, start)


def ring_turns(signs, other):
    """A list of rings that share no road, and lead from signs to other with the same in-counts."""
    # As the in-counts are alike, just as many unlike signs lead to each corner as from it.
    unlike = [name for name in signs if signs[name] != other[name]]
    turns = []
    while unlike:
        ring = ring_along(signs, unlike)
        turns.append(ring)
        unlike = [name for name in unlike if name not in ring.names]
    return turns


def steps(town, signs, other, need):
    """Steps from signs to other: first turns that are no rings, as few as can be, then rings that share no road."""
    check_both(town, signs, other, need)
    now = signs
    for turn in count_turns(town, signs, other, need):
        now = turn(now)
        yield Step(turn, now)
    for turn in ring_turns(now, other):
        now = turn(now)
        yield Step(turn, now)


def is_step(value):
    """Whether any value is a Step of a Turn and Signs."""
    return isinstance(value, Step) and isinstance(value.turn, Turn) and isinstance(value.signs, Signs)


def are_in_order(turns, fewest):
    """Whether so many turns that are no rings come first, and then rings that share no road."""
    wanted = [at >= fewest for at in range(len(turns))]
    if len(turns) < fewest or [turn.is_ring for turn in turns] != wanted:
        return False
    return has_no_twice([name for turn in turns[fewest:] for name in turn.names])


def turned_by(turn, signs):
    """The signs with the walk turned; None if it does not lead along them."""
    try:
        return turn(signs)
    except NotAlong:
        return None


def lead_on(town, signs, other, need, value):
    """Whether a list or tuple of steps leads from signs to other, with good signs all the way."""
    now = signs
    for step in value:
        now = turned_by(step.turn, now)
        if now is None or now != step.signs or short_ward(town, now, need) is not None:
            return False
    return now == other


def shows_steps(town, signs, other, need, value):
    """Whether any value is a list or tuple of steps as steps yields them."""
    check_both(town, signs, other, need)
    if not isinstance(value, (list, tuple)) or not all([is_step(part) for part in value]):
        return False
    if not are_in_order([step.turn for step in value], fewest_turns(town, signs, other)):
        return False
    return lead_on(town, signs, other, need, value)
