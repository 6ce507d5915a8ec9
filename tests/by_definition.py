"""What the definitions of the document say of towns with signs, found by looking at everything there is."""

import itertools

from signtown.streets import Avenue, Lane, Road
from some_towns import directions


def wards_of(town):
    """All wards as tuples of corners: by the number of corners, then as tuples."""
    corners = sorted(set(corner for street in town for corner in street.ends))
    return [part for many in range(1, len(corners)) for part in itertools.combinations(corners, many)]


def leading_into(town, signs, corners):
    """The names of the streets that lead from a corner outside to a corner inside."""
    return [name for name, pairs in directions(town, signs).items()
            if [goal for start, goal in pairs if start not in corners and goal in corners]]


def counts_into(town, signs):
    """A dict from each ward, as a tuple, to the number of streets that lead into it."""
    return {ward: len(leading_into(town, signs, ward)) for ward in wards_of(town)}


def comes_everywhere(town, signs, shut):
    """Whether one can come from each corner to each other one when these streets are shut."""
    pairs = [pair for name, found in directions(town, signs).items() if name not in shut for pair in found]
    for root in town.corners:
        came = {root}
        for _ in town.corners:
            came |= {goal for start, goal in pairs if start in came}
        if came != set(town.corners):
            return False
    return True


def good_by_shutting(town, signs, need):
    """Whether one comes everywhere whatever streets, at most need - 1, are shut."""
    sets = [shut for many in range(need) for shut in itertools.combinations(town.names, many)]
    return all(comes_everywhere(town, signs, shut) for shut in sets)


def good_by_counts(town, signs, need):
    """Whether at least need streets lead into each ward."""
    return all(number >= need for number in counts_into(town, signs).values())


def walks_along(town, signs, start, goal, walk):
    """Whether a value is a tuple of unlike streets that lead on from start to goal."""
    if type(walk) is not tuple or not walk or any(type(name) is not str for name in walk):
        return False
    if len(set(walk)) < len(walk):
        return False
    pairs = directions(town, signs)
    at = start
    for name in walk:
        ahead = [end for tail, end in pairs.get(name, []) if tail == at]
        if not ahead:
            return False
        at = ahead[0]
    return at == goal


def is_bundle(town, signs, start, goal, walks):
    """Whether a value is a tuple of walks from start to goal that share no street."""
    if type(walks) is not tuple or not all(walks_along(town, signs, start, goal, walk) for walk in walks):
        return False
    names = [name for walk in walks for name in walk]
    return len(names) == len(set(names))


def are_ways(town, signs, need, ways):
    """Whether Ways are right for the need."""
    root, *others = town.corners
    if ways.root != root or sorted(ways.out) != others or sorted(ways.back) != others:
        return False
    return all(
        len(ways.out[corner]) == len(ways.back[corner]) == need
        and is_bundle(town, signs, root, corner, ways.out[corner])
        and is_bundle(town, signs, corner, root, ways.back[corner]) for corner in others)


def onto(parts, start, goal):
    """The sum onto a sign of weights that are told as a dict from tuples of corners."""
    return sum(number for ward, number in parts.items() if goal in ward and start not in ward)


def settled_number(town, ward):
    """How many lanes and avenues lead into the ward."""
    lanes = [street for street in town if isinstance(street, Lane)]
    avenues = [street for street in town if isinstance(street, Avenue)]
    return (len([lane for lane in lanes if lane.goal in ward and lane.start not in ward])
            + len([avenue for avenue in avenues if (avenue.one in ward) != (avenue.other in ward)]))


def needs_of(parts, town, need):
    return sum(number * (need - settled_number(town, ward)) for ward, number in parts.items())


def roads_of(town):
    return [street for street in town if isinstance(street, Road)]


def bound_of(parts, town, need):
    rests = [min(road.there - onto(parts, road.one, road.other), road.back - onto(parts, road.other, road.one))
             for road in roads_of(town)]
    return needs_of(parts, town, need) + sum(rests)


def excess_of(parts, town, need):
    sums = [max(onto(parts, road.one, road.other), onto(parts, road.other, road.one)) for road in roads_of(town)]
    return needs_of(parts, town, need) - sum(sums)


def are_clear(parts, town):
    """Whether no two of the wards cross in the town."""
    whole = set(town.corners)
    return not any(set(one) & set(other) and set(one) - set(other) and set(other) - set(one)
                   and whole - set(one) - set(other) for one, other in itertools.combinations(parts, 2))


def price_of(town, signs):
    return sum(road.there if signs.parts[road.name][1] == road.other else road.back for road in roads_of(town))


def in_counts_of(town, signs):
    goals = [goal for _, goal in signs.parts.values()]
    return {corner: goals.count(corner) for corner in town.corners}


def least_prices(town):
    """A dict from each need for which there are good signs to their least price, found by a look at all signs."""
    roads = roads_of(town)
    rows = [(ward, settled_number(town, ward) - len([road for road in roads if set(road.ends) <= set(ward)]))
            for ward in wards_of(town)]
    found = {}
    for row in itertools.product(*[[(road.other, road.there), (road.one, road.back)] for road in roads]):
        price = sum(paid for _, paid in row)
        counts = {corner: 0 for corner in town.corners}
        for goal, _ in row:
            counts[goal] += 1
        least = min(sum(counts[corner] for corner in ward) + more for ward, more in rows)
        for need in range(1, min(least, 20) + 1):
            found[need] = min(price, found.get(need, price))
    return found
