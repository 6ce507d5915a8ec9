"""The greatest need for which there are good signs."""

from signtown.best import Best, Never, cheapest
from signtown.checks import check_streets
from signtown.kinds import check_town
from signtown.lookers import Looker
from signtown.names import is_integer, is_need
from signtown.papers import same


class Greatest:
    """The greatest need, the Best for it, and the Never for the need that is greater by 1."""

    def __init__(self, number, best, never):
        self.number = number
        self.best = best
        self.never = never

    def __eq__(self, other):
        if not isinstance(other, Greatest) or not same(self.number, other.number):
            return False
        return same(self.best, other.best) and same(self.never, other.never)


def greatest(town):
    """A Greatest of the town: its number is 0 and its best None if there are no good signs for the need 1."""
    number, best = 0, None
    answer = cheapest(town, 1)
    # No more streets lead into a ward than there are, so this ends while the numbers are needs.
    while answer:
        number, best = number + 1, answer
        answer = cheapest(town, number + 1)
    return Greatest(number, best, answer)


def is_right(town, number, value):
    """Whether an integer is a need, and any value an answer that is right for it."""
    if not is_need(number):
        return False
    looker = Looker(town, number)
    return looker(value)


def is_best(town, number, value):
    """Whether any value is the right Best for this number, or None for 0."""
    if number == 0:
        return value is None
    return isinstance(value, Best) and is_right(town, number, value)


def is_never(town, number, value):
    """Whether any value is the right Never for this number."""
    return isinstance(value, Never) and is_right(town, number, value)


def shows_greatest(town, value):
    """Whether any value is a Greatest that is right."""
    check_town(town)
    check_streets(town)
    if not isinstance(value, Greatest) or not is_integer(value.number):
        return False
    return is_best(town, value.number, value.best) and is_never(town, value.number + 1, value.never)
