"""Walks of roads that are turned, and which of them lead from good signs to good signs in plain towns."""

from signtown.checks import check_apart, check_corners, check_plan, check_signed
from signtown.errors import BadSigns, Level, NotAlong, Unlike
from signtown.flows import shortest
from signtown.goods import check_good
from signtown.names import is_name, need_name
from signtown.narrow import narrow_around
from signtown.papers import same
from signtown.signs import check_fitting, check_signs
from signtown.ways import has_no_twice, ways_of


def are_walk_names(value):
    """Whether any value is a tuple of at least one name, none twice."""
    if not isinstance(value, tuple) or len(value) == 0:
        return False
    return all([is_name(name) for name in value]) and has_no_twice(value)


class Turn:
    """A walk of roads along their signs, from start to goal, that can be turned."""

    def __init__(self, names, start, goal):
        if not are_walk_names(names):
            raise BadSigns("walk")
        need_name(start)
        need_name(goal)
        self._names = names
        self.start = start
        self.goal = goal

    @property
    def names(self):
        """The tuple of the names of the roads, in the order of the walk."""
        return self._names

    @property
    def is_ring(self):
        """Whether the walk comes round to the corner where it starts."""
        return self.start == self.goal

    def __len__(self):
        return len(self._names)

    def __iter__(self):
        return iter(self._names)

    def __invert__(self):
        return Turn(self._names[::-1], self.goal, self.start)

    def check_along(self, signs):
        """Raises an error for any value that is no Signs along which the walk leads."""
        check_signs(signs)
        at = self.start
        for name in self._names:
            if name not in signs or signs.tail(name) != at:
                raise NotAlong(name)
            at = signs[name]
        if at != self.goal:
            raise NotAlong(self._names[-1])

    def __call__(self, signs):
        self.check_along(signs)
        return signs.turned(*self._names)

    def stages(self, signs):
        """The signs behind each turned road, in the order of the walk."""
        self.check_along(signs)
        now = signs
        for name in self._names:
            now = now.turned(name)
            yield now

    def __eq__(self, other):
        if not isinstance(other, Turn):
            return False
        return self._names == other._names and self.start == other.start and self.goal == other.goal


class Moved:
    """The signs stay good when the turn is made: the signs behind it, with ways for the need."""

    def __init__(self, turn, signs, ways):
        self.turn = turn
        self.signs = signs
        self.ways = ways

    def __eq__(self, other):
        if not isinstance(other, Moved):
            return False
        return same(self.turn, other.turn) and same(self.signs, other.signs) and same(self.ways, other.ways)

    def __bool__(self):
        return True


class Stuck:
    """No walk from the start to the goal can be turned: a narrow ward that has the goal and not the start."""

    def __init__(self, ward):
        self.ward = ward

    def __eq__(self, other):
        return isinstance(other, Stuck) and same(self.ward, other.ward)

    def __bool__(self):
        return False


def check_plain(town):
    """Raises Unlike unless all streets of the Town are roads."""
    if not town.is_plain:
        raise Unlike("kinds")


def check_both(town, signs, other, need):
    """The errors of a function of a plain town and two good signs of it for a need."""
    check_signed(town, signs)
    check_fitting(town, other)
    check_plan(town, signs, need)
    check_plain(town)
    check_good(town, signs, need)
    check_good(town, other, need)


def turn_between(town, signs, start, goal):
    """A Turn of a shortest walk between two corners; good signs have one."""
    return Turn(shortest(town.settled(signs), start, goal), start, goal)


def exchange(town, signs, other, need, corner):
    """A Turn from the corner, which has less in signs than in other, to one that has more; good signs stay good."""
    check_both(town, signs, other, need)
    check_corners(town, (corner,))
    if signs(corner) >= other(corner):
        raise Level(corner)
    more = [goal for goal in town.corners if signs(goal) > other(goal)]
    # The goal loses one street that leads to it, so it must stand in no narrow ward that the corner is not in.
    free = [goal for goal in more if narrow_around(town, signs, need, goal, corner) is None]
    return turn_between(town, signs, corner, free[0])


def move(town, signs, need, start, goal):
    """A Moved with a Turn from start to goal behind which signs are good, or a Stuck."""
    check_plan(town, signs, need)
    check_plain(town)
    check_good(town, signs, need)
    check_apart(town, start, goal)
    ward = narrow_around(town, signs, need, goal, start)
    if ward is not None:
        return Stuck(ward)
    turn = turn_between(town, signs, start, goal)
    behind = turn(signs)
    return Moved(turn, behind, ways_of(town, behind, need))
