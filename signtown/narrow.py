"""Narrow wards of good signs, and which signs can be turned alone."""

from signtown.checks import check_corners, check_plan
from signtown.errors import NoRoad
from signtown.goods import check_good
from signtown.leads import settled_into
from signtown.papers import same
from signtown.ways import ways_of


def narrow_wards(town, signs, need):
    """All narrow wards, in the order of town.wards()."""
    check_plan(town, signs, need)
    check_good(town, signs, need)
    plan = town.settled(signs)
    for ward in town.wards():
        if settled_into(plan, ward) == need:
            yield ward


def narrow_around(town, signs, need, corner, other):
    """The least narrow ward that has the corner and not the other one; None if there is none."""
    found = list(narrow_wards(town, signs, need))
    check_corners(town, (corner, other))
    # The common corners of two such wards are one, too, so the first, which has the fewest, is within each.
    for ward in found:
        if corner in ward and other not in ward:
            return ward
    return None


class Turning:
    """The base of what comes of turning a sign alone, never made itself."""

    def __bool__(self):
        return False


class Turned(Turning):
    """The sign can be turned: the signs behind it, with ways for the need."""

    def __init__(self, signs, ways):
        self.signs = signs
        self.ways = ways

    def __eq__(self, other):
        return isinstance(other, Turned) and same(self.signs, other.signs) and same(self.ways, other.ways)

    def __bool__(self):
        return True


class Tied(Turning):
    """The sign cannot be turned alone: a narrow ward into which it leads."""

    def __init__(self, ward):
        self.ward = ward

    def __eq__(self, other):
        return isinstance(other, Tied) and same(self.ward, other.ward)

    def __bool__(self):
        return False


def turn_alone(town, signs, need, name):
    """A Turned if the signs stay good when this one is turned, otherwise a Tied."""
    check_plan(town, signs, need)
    if name not in town.roads:
        raise NoRoad(name)
    for ward in list(narrow_wards(town, signs, need)):
        if signs[name] in ward and signs.tail(name) not in ward:
            return Tied(ward)
    turned = signs.turned(name)
    return Turned(turned, ways_of(town, turned, need))
