"""What wards and signs ask of towns: they cannot import Town, which is made with both of them."""

from signtown.errors import BadTown

MOST_CORNERS = 7
MOST_STREETS = 14


class AnyTown:
    """The base of Town alone, never made itself: what is below it is a Town."""


def check_town(value):
    """Raises BadTown for any value that is no Town."""
    if not isinstance(value, AnyTown):
        raise BadTown("town")
