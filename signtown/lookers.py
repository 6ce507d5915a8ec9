"""A looker: it checks papers by sums, for a town and a need, and searches nothing."""

from signtown.best import Best, Never
from signtown.checks import check_asked
from signtown.judge import is_short_ward
from signtown.names import is_integer
from signtown.signs import Signs
from signtown.ways import shows_ways
from signtown.weights import are_on


class Looker:
    """Looks at papers about good signs of a town for a need."""

    def __init__(self, town, need):
        check_asked(town, need)
        self._town = town
        self._need = need

    def __call__(self, answer):
        if isinstance(answer, Best):
            return self.is_cheap(answer.signs, answer.cost, answer.weights) and self.is_sound(answer.signs, answer.ways)
        return isinstance(answer, Never) and self.bars(answer.weights) and answer.weights.is_clear(self._town)

    def is_fitting(self, signs):
        """Whether any value is signs that fit the town."""
        return isinstance(signs, Signs) and signs.fits(self._town)

    def is_cheap(self, signs, cost, weights):
        """Whether any three values are signs that fit, their price, and clear weights whose bound is the price."""
        if not self.is_fitting(signs) or not is_integer(cost) or signs.price(self._town) != cost:
            return False
        if not are_on(self._town, weights) or not weights.is_clear(self._town):
            return False
        return weights.bound(self._town, self._need) == cost

    def is_sound(self, signs, ways):
        """Whether any two values are signs that fit and ways that show them good."""
        return self.is_fitting(signs) and shows_ways(self._town, signs, self._need, ways)

    def is_short(self, signs, ward):
        """Whether any two values are signs that fit and a ward into which fewer streets than the need lead."""
        return self.is_fitting(signs) and is_short_ward(self._town, signs, self._need, ward)

    def binds(self, weights, price):
        """Whether any two values are weights, clear or not, and an integer that is no more than their bound."""
        if not are_on(self._town, weights) or not is_integer(price):
            return False
        return weights.bound(self._town, self._need) >= price

    def bars(self, weights):
        """Whether any value is weights, clear or not, with an excess above 0."""
        return are_on(self._town, weights) and weights.excess(self._town, self._need) > 0
