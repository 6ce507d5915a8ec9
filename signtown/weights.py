"""Weights: whole numbers on wards, whose sums tell what good signs cost at least, or that there are none."""

from signtown.checks import check_need, check_streets
from signtown.crossings import bits_of, corners_of, first_crossing, uncrossed
from signtown.errors import BadWeights
from signtown.kinds import MOST_CORNERS, check_town
from signtown.leads import settled_into
from signtown.names import ascending, is_integer, is_name, need_name
from signtown.wards import Ward, check_ward


def is_key(value):
    """Whether any value is an ascending tuple of the corners of a ward."""
    if not isinstance(value, tuple) or not 1 <= len(value) <= MOST_CORNERS:
        return False
    return all([is_name(corner) for corner in value]) and ascending(value) == value


def is_weight(value):
    """Whether any value is an integer from 1 on."""
    return is_integer(value) and value >= 1


def are_parts(value):
    """Whether weights can be made of any value."""
    if not isinstance(value, dict):
        return False
    return all([is_key(key) and is_weight(value[key]) for key in value])


def by_size(keys):
    """The tuples by their lengths, and then as tuples."""
    return sorted(sorted(set(keys)), key=len)


def are_on(town, value):
    """Whether any value is Weights on wards of the Town alone."""
    return isinstance(value, Weights) and all([ward.is_of(town) for ward in value])


def check_weights(value):
    """Raises BadWeights for any value that is no Weights."""
    if not isinstance(value, Weights):
        raise BadWeights("weights")


def check_weights_of(town, weights):
    """Raises BadWeights unless all wards of the weights are wards of the Town, then Empty."""
    if not are_on(town, weights):
        raise BadWeights("town")
    check_streets(town)


def lesser_rest(weights, road):
    """The lesser one of the two numbers of a road: the price of a sign less the sum onto it."""
    there = road.there - weights.onto(road.one, road.other)
    back = road.back - weights.onto(road.other, road.one)
    return there if there < back else back


def greater_sum(weights, road):
    """The greater one of the two sums onto a sign of a road."""
    there = weights.onto(road.one, road.other)
    back = weights.onto(road.other, road.one)
    return there if there > back else back


class Weights:
    """Integers from 1 on for some wards, of whatever towns."""

    def __init__(self, parts):
        if not are_parts(parts):
            raise BadWeights("parts")
        keys = by_size(list(parts))
        self._parts = {key: parts[key] for key in keys}
        self._wards = tuple([Ward(*key) for key in keys])

    @property
    def parts(self):
        """A new dict from the tuples of corners to the weights."""
        return {key: self._parts[key] for key in self._parts}

    def __getitem__(self, ward):
        check_ward(ward)
        return self._parts.get(ward.corners, 0)

    def __contains__(self, ward):
        return isinstance(ward, Ward) and ward.corners in self._parts

    def __len__(self):
        return len(self._wards)

    def __iter__(self):
        return iter(self._wards)

    def __add__(self, other):
        check_weights(other)
        keys = [*self._parts, *other._parts]
        return Weights({key: self._parts.get(key, 0) + other._parts.get(key, 0) for key in keys})

    def __mul__(self, other):
        return Weights({key: self._parts[key] * other for key in self._parts})

    def __rmul__(self, other):
        return Weights({key: self._parts[key] * other for key in self._parts})

    @staticmethod
    def none():
        """No weights."""
        return Weights({})

    @staticmethod
    def of(ward, number=1):
        """This weight for this ward alone."""
        check_ward(ward)
        return Weights({ward.corners: number})

    def __call__(self, corner):
        need_name(corner)
        return sum([self._parts[key] for key in self._parts if corner in key])

    def onto(self, start, goal):
        """The sum of the weights of the wards that have the goal and not the start."""
        need_name(start)
        need_name(goal)
        return sum([self._parts[key] for key in self._parts if goal in key and start not in key])

    def needs(self, town, need):
        """What the wards ask of the roads, by their weights: below 0 where settled streets bring more than that."""
        check_town(town)
        check_need(need)
        check_weights_of(town, self)
        return sum([self[ward] * (need - settled_into(town, ward)) for ward in self._wards])

    def bound(self, town, need):
        """What good signs cost at least."""
        needs = self.needs(town, need)
        return needs + sum([lesser_rest(self, town[name]) for name in town.roads])

    def excess(self, town, need):
        """If this is above 0, there are no good signs."""
        needs = self.needs(town, need)
        return needs - sum([greater_sum(self, town[name]) for name in town.roads])

    def is_clear(self, town):
        """Whether no two of the wards cross in the town."""
        check_town(town)
        check_weights_of(town, self)
        wards = [bits_of(ward, town.corners) for ward in self._wards]
        return first_crossing(wards, bits_of(town.corners, town.corners)) is None

    def cleared(self, town):
        """Clear weights with the same sums at all corners, whose bounds and excesses are no less."""
        check_town(town)
        check_weights_of(town, self)
        corners = town.corners
        by_bits = {bits_of(ward, corners): self[ward] for ward in self._wards}
        found = uncrossed(by_bits, bits_of(corners, corners))
        return Weights({corners_of(bits, corners): found[bits] for bits in found})

    def __eq__(self, other):
        return isinstance(other, Weights) and self._parts == other._parts

    def __bool__(self):
        return bool(self._wards)
