"""How many streets lead into wards, and to corners."""

from signtown.kinds import check_town
from signtown.signs import check_fitting
from signtown.wards import check_ward_of


def enters(street, ward):
    """Whether a street leads into the ward as it is."""
    inside = [corner for corner in street.ends if corner in ward]
    return len(inside) == 1 and street.leads(inside[0])


def settled_into(town, ward):
    """How many lanes and avenues lead into the ward."""
    check_town(town)
    check_ward_of(town, ward)
    # A road leads to none of its ends as it is, so none is counted.
    return len([street for street in town.streets if enters(street, ward)])


def into(town, signs, ward):
    """How many streets lead into the ward: lanes, avenues and signed roads."""
    check_town(town)
    check_fitting(town, signs)
    check_ward_of(town, ward)
    signed = [name for name in signs.names if signs[name] in ward and signs.tail(name) not in ward]
    return settled_into(town, ward) + len(signed)


def within(town, ward):
    """How many roads have both ends in the ward."""
    check_town(town)
    check_ward_of(town, ward)
    return len([name for name in town.roads if all([corner in ward for corner in town[name].ends])])


def in_counts(town, signs):
    """A new dict from each corner to the number of signed roads that lead to it."""
    check_town(town)
    check_fitting(town, signs)
    return {corner: signs(corner) for corner in town.corners}


def into_by_counts(town, counts, ward):
    """How many streets lead into the ward if these are the in-counts, a dict from all corners to integers."""
    roads = within(town, ward)
    settled = settled_into(town, ward)
    return sum([counts[corner] for corner in ward]) - roads + settled
