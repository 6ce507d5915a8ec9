"""Works: a town, a need and given signs that change, deed by deed, and can be taken back."""

from signtown.best import cheapest
from signtown.checks import check_need
from signtown.errors import BadSigns, BadTown, Barred, NoDeed, NoRoad, NoSign, NoSigns, Unlike
from signtown.judge import judge
from signtown.kinds import check_town
from signtown.moves import Turn
from signtown.signs import Signs, check_signs, is_along
from signtown.streets import Road, Street
from signtown.towns import Town


class Trial:
    """A block behind which works are as they were when it began."""

    def __init__(self, works):
        self._works = works
        self._now = None
        self._past = None

    def __enter__(self):
        self._now = self._works._now
        self._past = self._works.past
        return self._works

    def __exit__(self, kind, value, trace):
        self._works._now = self._now
        self._works.past = self._past


def given_beside(given, street):
    """The given signs without that of this street's name, unless it is for a road with the same ends."""
    if street.name not in given or (isinstance(street, Road) and is_along(given, street.name, street)):
        return given
    return given - street.name


def check_given(town, given, signs):
    """Raises an error unless the signs are for roads of the town, with their ends, and as given signs are."""
    for name in signs:
        if name not in town.roads:
            raise NoRoad(name)
    for name in signs:
        if not is_along(signs, name, town[name]) or (name in given and given[name] != signs[name]):
            raise Unlike(name)


class Works:
    """A town and a need that change, and given signs for some roads of the town."""

    def __init__(self, town, need=1):
        check_town(town)
        check_need(need)
        # Neither tuple ever changes, so that to keep both is to keep how the works are.
        self._now = (town, Signs.none(), need)
        self.past = ()

    @property
    def town(self):
        """The Town."""
        return self._now[0]

    @property
    def given(self):
        """The given Signs."""
        return self._now[1]

    @property
    def need(self):
        """The need, which can be assigned."""
        return self._now[2]

    @need.setter
    def need(self, value):
        self.set_need(value)

    @property
    def left(self):
        """The ascending tuple of the names of the roads without a given sign."""
        given = self.given
        return tuple([name for name in self.town.roads if name not in given])

    @property
    def deeds(self):
        """How many deeds can be taken back."""
        return len(self.past)

    def become(self, word, town, given, need):
        """Does a deed of this word, behind which the works are so."""
        self.past = (*self.past, (word, self._now))
        self._now = (town, given, need)

    def set_need(self, need):
        """Another need."""
        check_need(need)
        self.become("need", self.town, self.given, need)

    def __getitem__(self, name):
        return self.given[name]

    def __setitem__(self, name, goal):
        if name not in self.town.roads:
            raise NoRoad(name)
        parts = self.given.parts
        parts[name] = (self.town[name].far(goal), goal)
        self.become("sign", self.town, Signs(parts), self.need)

    def __contains__(self, name):
        return name in self.given

    def __len__(self):
        return len(self.given)

    def __iter__(self):
        raise TypeError("works cannot be iterated over")

    def put(self, street):
        """One street more, or in the place of the one with this name; returns how many there are."""
        if not isinstance(street, Street):
            raise BadTown("street")
        others = [other for other in self.town if other.name != street.name]
        town = Town(*others, street)
        self.become("put", town, given_beside(self.given, street), self.need)
        return len(town)

    def shut(self, name):
        """Takes a street out, with its given sign, and returns the street."""
        street = self.town[name]
        given = self.given - name if name in self.given else self.given
        self.become("shut", self.town - name, given, self.need)
        return street

    def take(self, name):
        """Takes a given sign back, and returns the corner to which it led."""
        goal = self.given[name]
        self.become("take", self.town, self.given - name, self.need)
        return goal

    def give(self, signs):
        """Gives all these signs, too."""
        check_signs(signs)
        check_given(self.town, self.given, signs)
        self.become("give", self.town, self.given | signs, self.need)

    def __ior__(self, other):
        self.give(other)
        return self

    def turn_about(self, walk):
        """Turns a walk in the given signs."""
        if not isinstance(walk, Turn):
            raise BadSigns("turn")
        walk.check_along(self.given)
        names = walk.names
        self.become("turn", self.town, self.given.turned(*names), self.need)

    def __ixor__(self, other):
        self.turn_about(other)
        return self

    def settled_town(self):
        """The town with a lane in the place of each road with a given sign."""
        return self.town.settled(self.given)

    def answer(self):
        """The answer of cheapest for the roads without a given sign."""
        return cheapest(self.settled_town(), self.need)

    def finished(self):
        """The Signs of all roads: the given ones, and those of the answer."""
        answer = self.answer()
        if not answer:
            raise NoSigns() from Barred(answer.weights)
        return self.given | answer.signs

    def price(self):
        """The price of the finished signs."""
        return self.finished().price(self.town)

    def fill(self):
        """Gives all finished signs, and returns how many of them were not given."""
        signs = self.finished()
        many = len(signs) - len(self.given)
        self.become("fill", self.town, signs, self.need)
        return many

    def judge(self):
        """Whether the given signs, which must be all, are good for the need."""
        left = self.left
        if left:
            raise NoSign(left[0])
        return judge(self.town, self.given, self.need)

    def undo(self):
        """Takes back the last deed, and returns its word."""
        if not self.past:
            raise NoDeed()
        word, before = self.past[-1]
        self.past = self.past[:-1]
        self._now = before
        return word

    def tried(self):
        """A block behind which the works are as they were when it began."""
        return Trial(self)

    def tried_by(self, work):
        """What work, which is called with the works, returns; behind it they are as they were."""
        with self.tried() as same:
            found = work(same)
        return found

    def attempt(self, work):
        """What work, which is called with the works, returns; if it raises an error, they are as they were."""
        now, past = self._now, self.past
        try:
            found = work(self)
            now, past = self._now, self.past
        finally:
            self._now, self.past = now, past
        return found

    def twin(self):
        """Equal works with nothing to take back, that go their own way."""
        other = Works(self.town, self.need)
        other._now = self._now
        return other

    def __eq__(self, other):
        if not isinstance(other, Works) or self.need != other.need:
            return False
        return self.town == other.town and self.given == other.given
