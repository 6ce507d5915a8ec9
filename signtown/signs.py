"""Signs: they tell of roads, by their names, from where to where they lead."""

from signtown.errors import BadSigns, NoSign, TooMany, Unlike
from signtown.kinds import MOST_STREETS, AnyTown, check_town
from signtown.names import ascending, is_name, need_name


def check_signs(value):
    """Raises BadSigns for any value that is no Signs."""
    if not isinstance(value, Signs):
        raise BadSigns("signs")


def check_fitting(town, signs):
    """Raises BadSigns for any value of signs that are no Signs which fit this Town."""
    check_signs(signs)
    if not signs.fits(town):
        raise BadSigns("roads")


def is_pair(value):
    """Whether any value is a pair of unlike names."""
    if not isinstance(value, tuple) or len(value) != 2:
        return False
    start, goal = value
    return is_name(start) and is_name(goal) and start != goal


def check_parts(parts):
    """Raises an error for any value of which no signs can be made."""
    if not isinstance(parts, dict):
        raise BadSigns("parts")
    if not all([is_name(name) and is_pair(parts[name]) for name in parts]):
        raise BadSigns("parts")
    if len(parts) > MOST_STREETS:
        raise TooMany("signs", MOST_STREETS)


def cheaper_pair(road):
    """From where to where the cheaper sign of a road leads."""
    if road.there <= road.back:
        return road.one, road.other
    return road.other, road.one


def is_along(signs, name, street):
    """Whether the sign of this name leads from one end of the street to the other one."""
    return signs.tail(name) in street and signs[name] in street


class Signs:
    """Signs for some names of roads: each leads from a corner to another one."""

    def __init__(self, parts):
        check_parts(parts)
        names = ascending(list(parts))
        self._names = names
        self._pairs = {name: parts[name] for name in names}

    @property
    def names(self):
        """The ascending tuple of the names."""
        return self._names

    @property
    def parts(self):
        """A new dict from the names to the pairs of start and goal."""
        return dict(self._pairs)

    def __getitem__(self, name):
        if name not in self._names:
            raise NoSign(name)
        return self._pairs[name][1]

    def tail(self, name):
        """The corner from which the sign leads."""
        if name not in self._names:
            raise NoSign(name)
        return self._pairs[name][0]

    def __contains__(self, name):
        return name in self._names

    def __len__(self):
        return len(self._names)

    def __iter__(self):
        return iter(self._names)

    def __or__(self, other):
        check_signs(other)
        for name in self._names:
            if name in other and self._pairs[name] != other._pairs[name]:
                raise Unlike(name)
        parts = {**self._pairs, **other._pairs}
        return Signs(parts)

    def __and__(self, other):
        check_signs(other)
        common = [name for name in self._names if name in other and self._pairs[name] == other._pairs[name]]
        parts = {name: self._pairs[name] for name in common}
        return Signs(parts)

    def __le__(self, other):
        return (self & other) == self

    def __sub__(self, other):
        if other not in self._names:
            raise NoSign(other)
        parts = {name: self._pairs[name] for name in self._names if name != other}
        return Signs(parts)

    def __invert__(self):
        parts = {name: (self[name], self.tail(name)) for name in self._names}
        return Signs(parts)

    def turned(self, *names):
        """These turned, each once for each time that it is named."""
        for name in names:
            if name not in self._names:
                raise NoSign(name)
        parts = dict(self._pairs)
        for name in names:
            start, goal = parts[name]
            parts[name] = (goal, start)
        return Signs(parts)

    def __call__(self, corner):
        need_name(corner)
        return len([name for name in self._names if self[name] == corner])

    def fits(self, town):
        """Whether any value is a Town that these signs fit."""
        if not isinstance(town, AnyTown) or self._names != town.roads:
            return False
        return all([is_along(self, name, town[name]) for name in self._names])

    def price(self, town):
        """The sum of the prices that the signs have in the town."""
        check_town(town)
        check_fitting(town, self)
        return sum([town[name].price(self[name]) for name in self._names])

    @classmethod
    def cheap(cls, town):
        """For each road of the town its cheaper sign."""
        check_town(town)
        parts = {name: cheaper_pair(town[name]) for name in town.roads}
        return cls(parts)

    @staticmethod
    def none():
        """No signs."""
        return Signs({})

    def __eq__(self, other):
        return isinstance(other, Signs) and self._pairs == other._pairs

    def __bool__(self):
        return bool(self._names)
