"""Whether signs are good, with papers that show it, and how strong they are."""

from signtown.checks import check_plan, check_signed, check_streets
from signtown.goods import short_ward
from signtown.leads import settled_into
from signtown.names import is_integer
from signtown.papers import same
from signtown.wards import Ward
from signtown.ways import shows_ways, ways_of


class Verdict:
    """The base of the two verdicts, never made itself."""

    def __bool__(self):
        return False


class Sound(Verdict):
    """The signs are good: ways for the need."""

    def __init__(self, ways):
        self.ways = ways

    def __eq__(self, other):
        return isinstance(other, Sound) and same(self.ways, other.ways)

    def __bool__(self):
        return True


class Short(Verdict):
    """The signs are not good: a ward into which fewer streets lead than the need asks."""

    def __init__(self, ward):
        self.ward = ward

    def __eq__(self, other):
        return isinstance(other, Short) and same(self.ward, other.ward)

    def __bool__(self):
        return False


class Strength:
    """The least number of streets that lead into a ward, such a ward, and ways for the number; None for 0."""

    def __init__(self, number, ward, ways):
        self.number = number
        self.ward = ward
        self.ways = ways

    def __eq__(self, other):
        if not isinstance(other, Strength):
            return False
        return same(self.number, other.number) and same(self.ward, other.ward) and same(self.ways, other.ways)


def judge(town, signs, need):
    """A Sound with ways if the signs are good, otherwise a Short with a ward."""
    check_plan(town, signs, need)
    ward = short_ward(town, signs, need)
    if ward is not None:
        return Short(ward)
    return Sound(ways_of(town, signs, need))


def check_strength(town, signs):
    """The errors of strength."""
    check_signed(town, signs)
    check_streets(town)


def strength(town, signs):
    """For which need the signs are just good, 0 for none."""
    check_strength(town, signs)
    plan = town.settled(signs)
    wards = list(town.wards())
    numbers = [settled_into(plan, ward) for ward in wards]
    least = min(numbers, key=int)
    ways = ways_of(town, signs, least) if least > 0 else None
    return Strength(least, wards[numbers.index(least)], ways)


def is_short_ward(town, signs, need, ward):
    """Whether any value of ward is a ward of the town into which fewer streets lead than the need asks."""
    if not isinstance(ward, Ward) or not ward.is_of(town):
        return False
    return settled_into(town.settled(signs), ward) < need


def shows_verdict(town, signs, need, value):
    """Whether any value is a verdict as judge returns it."""
    check_plan(town, signs, need)
    if isinstance(value, Sound):
        return shows_ways(town, signs, need, value.ways)
    return isinstance(value, Short) and is_short_ward(town, signs, need, value.ward)


def shows_strength(town, signs, value):
    """Whether any value is a Strength as strength returns it."""
    check_strength(town, signs)
    if not isinstance(value, Strength) or not is_integer(value.number):
        return False
    number, ward = value.number, value.ward
    if not isinstance(ward, Ward) or not ward.is_of(town) or settled_into(town.settled(signs), ward) != number:
        return False
    if number == 0:
        return value.ways is None
    return shows_ways(town, signs, number, value.ways)
