"""The errors that many functions share, in the order in which they are raised."""

from signtown.errors import BadNeed, Empty, Level, NoCorner
from signtown.kinds import check_town
from signtown.names import is_need
from signtown.signs import check_fitting


def check_need(value):
    """Raises BadNeed for any value that is no need."""
    if not is_need(value):
        raise BadNeed(value)


def check_streets(town):
    """Raises Empty for a Town without streets."""
    if len(town) == 0:
        raise Empty()


def check_asked(town, need):
    """The errors of a function of a town and a need."""
    check_town(town)
    check_need(need)
    check_streets(town)


def check_signed(town, signs):
    """The errors of a function of a town and signs, which has no need."""
    check_town(town)
    check_fitting(town, signs)


def check_plan(town, signs, need):
    """The errors of a function of a town, signs and a need."""
    check_signed(town, signs)
    check_need(need)
    check_streets(town)


def check_corners(town, corners):
    """Raises NoCorner with the first of these values that is no corner of the Town."""
    for corner in corners:
        if corner not in town.corners:
            raise NoCorner(corner)


def check_apart(town, start, goal):
    """Raises an error unless any two values are unlike corners of the Town."""
    check_corners(town, (start, goal))
    if start == goal:
        raise Level(start)
