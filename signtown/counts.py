"""In-counts: how many roads can lead to a corner in good signs, and signs with given in-counts."""

from signtown.best import cheapest
from signtown.checks import check_asked, check_corners
from signtown.errors import BadPrice, BadTown
from signtown.flows import reached, shortest
from signtown.kinds import check_town
from signtown.leads import in_counts
from signtown.names import is_integer, is_price
from signtown.papers import same
from signtown.signs import Signs
from signtown.streets import Road
from signtown.towns import Town


class CountSpan:
    """The least and the greatest in-count of a corner in good signs, and the answers that show them."""

    def __init__(self, least, most, low, high):
        self.least = least
        self.most = most
        self.low = low
        self.high = high

    def __eq__(self, other):
        if not isinstance(other, CountSpan) or not same(self.least, other.least) or not same(self.most, other.most):
            return False
        return same(self.low, other.low) and same(self.high, other.high)

    def __bool__(self):
        return True


class Counted:
    """Signs with the in-counts that were asked for."""

    def __init__(self, signs):
        self.signs = signs

    def __eq__(self, other):
        return isinstance(other, Counted) and same(self.signs, other.signs)

    def __bool__(self):
        return True


class Crowded:
    """There are no such signs: within these corners there are more roads than the sum of their in-counts."""

    def __init__(self, corners):
        self._corners = corners

    @property
    def corners(self):
        """The ascending tuple of these corners; all of the town if the sum of all in-counts is wrong."""
        return self._corners

    def __eq__(self, other):
        return isinstance(other, Crowded) and same(self._corners, other._corners)

    def __bool__(self):
        return False


def priced_into(street, corner, by):
    """The street; a road with the price by for the sign into this corner, and 0 for other signs."""
    if not isinstance(street, Road):
        return street
    there, back = [by if end == corner else 0 for end in (street.other, street.one)]
    return street.priced(there=there, back=back)


def counted(town, corner, by=1):
    """The town in which the price of signs is by times the in-count of the corner."""
    check_town(town)
    check_corners(town, (corner,))
    if not is_price(by):
        raise BadPrice(by)
    streets = [priced_into(street, corner, by) for street in town]
    return Town(*streets)


def count_span(town, need, corner):
    """A CountSpan of the corner, or a Never if there are no good signs."""
    check_asked(town, need)
    low = cheapest(counted(town, corner), need)
    if not low:
        return low
    high = cheapest(counted(town, corner, -1), need)
    return CountSpan(low.cost, -high.cost, low, high)


def check_counts(town, counts):
    """Raises BadTown unless any value is a dict from all corners, and nothing else, to integers from 0 on."""
    if not isinstance(counts, dict) or len(counts) != len(town.corners):
        raise BadTown("counts")
    for corner in town.corners:
        if corner not in counts or not is_integer(counts[corner]) or counts[corner] < 0:
            raise BadTown("counts")


def signed_roads(town, signs):
    """The town of the roads alone, with their signs."""
    lanes = [town[name].signed(signs[name]) for name in signs]
    return Town(*lanes)


def walk_to_more(plan, start, more):
    """The names of a walk from the start to one of these corners; None if there is none."""
    for goal in more:
        walk = shortest(plan, start, goal)
        if walk is not None:
            return walk
    return None


def signs_of(town, counts):
    """A Counted with signs that have these in-counts, or a Crowded."""
    check_town(town)
    check_counts(town, counts)
    if sum([counts[corner] for corner in town.corners]) != len(town.roads):
        return Crowded(town.corners)
    signs = Signs.cheap(town)
    now = in_counts(town, signs)
    while now != counts:
        start = [corner for corner in town.corners if now[corner] < counts[corner]][0]
        more = [corner for corner in town.corners if now[corner] > counts[corner]]
        plan = signed_roads(town, signs)
        walk = walk_to_more(plan, start, more)
        if walk is None:
            # No road leads out of the corners that are reached, and all of them together have too few.
            came = reached(plan, {}, start)
            return Crowded(tuple([corner for corner in town.corners if corner not in came]))
        signs = signs.turned(*walk)
        now = in_counts(town, signs)
    return Counted(signs)
