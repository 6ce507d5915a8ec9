"""Wards: sets of corners. Whether one is a ward of a town is asked where a town is told."""

from signtown.errors import BadText, BadWard, TooMany
from signtown.kinds import MOST_CORNERS, AnyTown, check_town
from signtown.names import ascending, is_name


def check_ward(value):
    """Raises BadWard for any value that is no Ward."""
    if not isinstance(value, Ward):
        raise BadWard("ward")


def check_ward_of(town, ward):
    """Raises BadWard for any value of ward that is no ward of this Town."""
    check_ward(ward)
    if not ward.is_of(town):
        raise BadWard("town")


def are_among(corners, others):
    """Whether all these corners are among the others."""
    return all([corner in others for corner in corners])


def is_ward_text(value):
    """Whether any value is a text that str writes of a ward."""
    if not isinstance(value, str):
        return False
    words = value.split(",")
    if len(words) > MOST_CORNERS or not all([is_name(word) for word in words]):
        return False
    return ascending(words) == tuple(words)


class Ward:
    """A set of at least one corner and at most seven."""

    def __init__(self, *corners):
        if not all([is_name(corner) for corner in corners]):
            raise BadWard("corner")
        if not corners:
            raise BadWard("none")
        kept = ascending(corners)
        if len(kept) > MOST_CORNERS:
            raise TooMany("corners", MOST_CORNERS)
        self._corners = kept

    @property
    def corners(self):
        """The ascending tuple of the corners."""
        return self._corners

    def __len__(self):
        return len(self._corners)

    def __contains__(self, corner):
        return corner in self._corners

    def __iter__(self):
        return iter(self._corners)

    def __or__(self, other):
        check_ward(other)
        corners = [*self._corners, *other._corners]
        return Ward(*corners)

    def __and__(self, other):
        check_ward(other)
        corners = [corner for corner in self._corners if corner in other._corners]
        return Ward(*corners)

    def __sub__(self, other):
        check_ward(other)
        corners = [corner for corner in self._corners if corner not in other._corners]
        return Ward(*corners)

    def __le__(self, other):
        check_ward(other)
        return are_among(self._corners, other._corners)

    def __lt__(self, other):
        check_ward(other)
        return are_among(self._corners, other._corners) and self._corners != other._corners

    def is_of(self, town):
        """Whether any value is a Town of which this is a ward."""
        if not isinstance(town, AnyTown):
            return False
        return are_among(self._corners, town.corners) and len(self._corners) < len(town.corners)

    def rest(self, town):
        """The ward of all other corners of the town."""
        check_town(town)
        check_ward_of(town, self)
        corners = [corner for corner in town.corners if corner not in self._corners]
        return Ward(*corners)

    def crosses(self, other, town):
        """Whether both cross: they share a corner, none is within the other, some corner is in neither."""
        check_ward(other)
        check_town(town)
        check_ward_of(town, self)
        check_ward_of(town, other)
        if self <= other or other <= self:
            return False
        share = any([corner in other for corner in self._corners])
        return share and not all([corner in self or corner in other for corner in town.corners])

    def __eq__(self, other):
        return isinstance(other, Ward) and self._corners == other._corners

    def __str__(self):
        return ",".join(self._corners)

    @classmethod
    def read(cls, text):
        """The ward with just this text."""
        if not is_ward_text(text):
            raise BadText(0, 0)
        corners = text.split(",")
        return cls(*corners)
