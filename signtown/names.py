"""Names of corners and streets, and the numbers that are asked for: prices and needs."""

from signtown.errors import BadName

LETTERS = "abcdefghijklmnopqrstuvwxyz"
NAME_LENGTH = 8
GREATEST_PRICE = 999999999999
GREATEST_NEED = 20


def is_name(value):
    """Whether any value is a name."""
    if not isinstance(value, str) or not 1 <= len(value) <= NAME_LENGTH:
        return False
    return all([letter in LETTERS for letter in value])


def need_name(value):
    """Raises BadName for any value that is no name."""
    if not is_name(value):
        raise BadName(value)


def ascending(names):
    """The tuple of the names, in order and without duplicates."""
    return tuple(sorted(set(names)))


def is_integer(value):
    """Whether any value is an int that is not a bool."""
    return isinstance(value, int) and not isinstance(value, bool)


def is_price(value):
    """Whether any value is a price."""
    return is_integer(value) and -GREATEST_PRICE <= value <= GREATEST_PRICE


def is_need(value):
    """Whether any value is a need."""
    return is_integer(value) and 1 <= value <= GREATEST_NEED
