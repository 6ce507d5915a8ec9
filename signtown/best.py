"""Good signs of the least price with papers that show it, or papers that show that there are none.

The least price is looked for as if shares of both signs of a road could be bought. That half a sign never helps is
relied on here: where such a search ends, each share is nothing or the whole, and the weights are whole, too.
"""

from signtown.checks import check_asked
from signtown.leads import settled_into
from signtown.papers import same
from signtown.shares import Table
from signtown.signs import Signs
from signtown.ways import ways_of
from signtown.weights import Weights


class Answer:
    """The base of the two answers, never made itself."""

    def __bool__(self):
        return False


class Best(Answer):
    """Good signs of the least price, ways that show them good, and weights that show that none are cheaper."""

    def __init__(self, cost, signs, ways, weights):
        self.cost = cost
        self.signs = signs
        self.ways = ways
        self.weights = weights

    def __eq__(self, other):
        if not isinstance(other, Best) or not same(self.cost, other.cost) or not same(self.signs, other.signs):
            return False
        return same(self.ways, other.ways) and same(self.weights, other.weights)

    def __bool__(self):
        return True


class Never(Answer):
    """Weights that show that there are no good signs."""

    def __init__(self, weights):
        self.weights = weights

    def __eq__(self, other):
        return isinstance(other, Never) and same(self.weights, other.weights)

    def __bool__(self):
        return False


def share_row(many, at):
    """The row that keeps the share of one of so many roads from being more than the whole."""
    return [-1 if index == at else 0 for index in range(many)] + [1, 0]


def ward_row(plan, need, ward, cheap):
    """The row that asks for as many streets into the ward as the need, told by the shares of the dearer signs."""
    parts = [int(cheap.tail(name) in ward) - int(cheap[name] in ward) for name in cheap]
    number = settled_into(plan, ward) - need
    # The tie asks a trifle less of each ward, least of the most uneven ones: then no two wards with weights cross.
    return [*parts, number, len(ward) * (len(plan.corners) - len(ward))]


def ward_table(town, need, cheap, wards):
    """The table of all shares and wards: at first each road has its cheaper sign."""
    plan = town.settled(cheap)
    shares = [share_row(len(cheap), at) for at in range(len(cheap))]
    dues = [abs(town[name].there - town[name].back) for name in cheap]
    return Table(shares + [ward_row(plan, need, ward, cheap) for ward in wards], dues)


def weighed(wards, numbers):
    """The weights of these wards: those of the numbers that are above 0."""
    return Weights({ward.corners: number for ward, number in zip(wards, numbers) if number > 0})


def cheapest(town, need):
    """A Best with good signs of the least price, or a Never."""
    check_asked(town, need)
    cheap = Signs.cheap(town)
    wards = list(town.wards())
    table = ward_table(town, need, cheap, wards)
    # The marks of the two shares of each road come first, those of the wards behind them.
    marks = range(2 * len(cheap), 2 * len(cheap) + len(wards))
    at = table.lift()
    if at is not None:
        return Never(weighed(wards, [table.part_of(mark, at) for mark in marks]).cleared(town))
    dearer = [name for index, name in enumerate(cheap.names) if table.slack_of(index) == 1]
    signs = cheap.turned(*dearer)
    weights = weighed(wards, [table.due_of(mark) for mark in marks])
    return Best(signs.price(town), signs, ways_of(town, signs, need), weights)
