"""Towns: sets of streets with unlike names; their corners are the ends of their streets."""

from signtown.errors import BadTown, NoRoad, NoStreet, TooMany, Unlike
from signtown.kinds import AnyTown, check_town
from signtown.names import ascending, need_name
from signtown.signs import check_signs, is_along
from signtown.streets import Avenue, Lane, Road, Street
from signtown.wards import Ward


def by_name(streets):
    """A dict from names to streets; raises Unlike with the least name that unlike ones have."""
    found = {street.name: street for street in streets}
    unlike = [street.name for street in streets if street != found[street.name]]
    if unlike:
        raise Unlike(min(unlike, key=str))
    return found


def without(town, names):
    """The town without the streets of these names; raises NoStreet with the first value that is none of them."""
    for name in names:
        if name not in town:
            raise NoStreet(name)
    streets = [street for street in town.streets if street.name not in names]
    return Town(*streets)


def replaced(town, changed):
    """The town with the changed streets, a dict by names, in the place of its own."""
    streets = [changed.get(street.name, street) for street in town.streets]
    return Town(*streets)


def new_names(town, corners):
    """A dict from all corners of the town to their names to be, which are unlike."""
    found = {corner: corners.get(corner, corner) for corner in town.corners}
    for corner in town.corners:
        need_name(found[corner])
    names = list(found.values())
    for name in ascending(names):
        if names.count(name) > 1:
            raise Unlike(name)
    return found


def moved(street, corners):
    """The same street with other ends: what a dict from corners to names makes of them."""
    if isinstance(street, Lane):
        return Lane(street.name, corners[street.start], corners[street.goal])
    if isinstance(street, Avenue):
        return Avenue(street.name, corners[street.one], corners[street.other])
    return Road(street.name, corners[street.one], corners[street.other], street.there, street.back)


def picks(corners, many):
    """All ascending tuples of so many of the ascending corners, in Python's order of tuples."""
    if many == 0:
        return [()]
    return [(first, *more) for at, first in enumerate(corners) for more in picks(corners[at + 1:], many - 1)]


class Town(AnyTown):
    """A set of at most 14 streets, with at most seven corners."""

    CORNERS = 7
    STREETS = 14

    def __init__(self, *streets):
        if not all([isinstance(street, Street) for street in streets]):
            raise BadTown("street")
        table = by_name(streets)
        corners = ascending([corner for street in streets for corner in street.ends])
        if len(corners) > Town.CORNERS:
            raise TooMany("corners", Town.CORNERS)
        if len(table) > Town.STREETS:
            raise TooMany("streets", Town.STREETS)
        names = ascending(list(table))
        self._names = names
        self._streets = tuple([table[name] for name in names])
        self._table = table
        self._corners = corners

    @property
    def streets(self):
        """The tuple of the streets, by their names."""
        return self._streets

    @property
    def names(self):
        """The ascending tuple of the names of the streets."""
        return self._names

    @property
    def corners(self):
        """The ascending tuple of the corners."""
        return self._corners

    @property
    def roads(self):
        """The ascending tuple of the names of the roads."""
        return tuple([street.name for street in self._streets if isinstance(street, Road)])

    @property
    def is_plain(self):
        """Whether all streets are roads."""
        return all([isinstance(street, Road) for street in self._streets])

    def __getitem__(self, name):
        if name not in self._names:
            raise NoStreet(name)
        return self._table[name]

    def __contains__(self, name):
        return name in self._names

    def __len__(self):
        return len(self._streets)

    def __iter__(self):
        return iter(self._streets)

    def __or__(self, other):
        more = other._streets if isinstance(other, Town) else (other,)
        streets = [*self._streets, *more]
        return Town(*streets)

    def __sub__(self, other):
        return without(self, (other,))

    def __and__(self, other):
        check_town(other)
        streets = [street for street in self._streets if street in other._streets]
        return Town(*streets)

    def __le__(self, other):
        return (self & other) == self

    def __invert__(self):
        streets = [~street for street in self._streets]
        return Town(*streets)

    def shut(self, *names):
        """The town without these streets."""
        return without(self, names)

    def opened(self, *names):
        """The town with the avenue in the place of each of these streets."""
        avenues = [self[name].opened() for name in names]
        return replaced(self, by_name(avenues))

    def priced(self, name, *, there=None, back=None):
        """The town with other prices of a road; None leaves one as it is."""
        if name not in self.roads:
            raise NoRoad(name)
        changed = {name: self[name].priced(there=there, back=back)}
        return replaced(self, changed)

    def settled(self, signs):
        """The town with a lane in the place of each road for which the signs have one."""
        check_signs(signs)
        for name in signs.names:
            if name not in self.roads:
                raise NoRoad(name)
        for name in signs.names:
            if not is_along(signs, name, self[name]):
                raise Unlike(name)
        changed = {name: self[name].signed(signs[name]) for name in signs.names}
        return replaced(self, changed)

    def renamed(self, corners):
        """The town with other names of corners, by a dict; a corner that it lacks stays."""
        changed = new_names(self, corners)
        streets = [moved(street, changed) for street in self._streets]
        return Town(*streets)

    def wards(self):
        """All wards: by the number of corners, then as tuples of corners."""
        for many in range(1, len(self._corners)):
            for corners in picks(self._corners, many):
                yield Ward(*corners)

    def __eq__(self, other):
        return isinstance(other, Town) and self._streets == other._streets

    def __bool__(self):
        return bool(self._streets)
