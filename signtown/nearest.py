"""The fewest signs that must be turned so that signs become good."""

from signtown.best import cheapest
from signtown.checks import check_need
from signtown.kinds import check_town
from signtown.streets import Road
from signtown.towns import Town


def kept_street(street, signs):
    """The street; a road with the price 1 for the sign that signs do not have, and 0 for other signs."""
    if not isinstance(street, Road):
        return street
    there, back = [int(street.name in signs and signs[street.name] != goal) for goal in (street.other, street.one)]
    return street.priced(there=there, back=back)


def kept(town, signs):
    """The town in which the price of signs is how many of these signs, for any of its roads, they have not."""
    check_town(town)
    # Signs that the town could not settle raise the same errors here.
    town.settled(signs)
    streets = [kept_street(street, signs) for street in town]
    return Town(*streets)


def nearest(town, need, signs):
    """The answer of cheapest that turns the fewest of these signs."""
    check_town(town)
    check_need(need)
    return cheapest(kept(town, signs), need)
