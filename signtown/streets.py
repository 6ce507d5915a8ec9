"""Streets: lanes lead one way, avenues lead both ways, roads are to get a sign."""

from signtown.errors import BadPrice, BadStreet, BadText, NoCorner
from signtown.figures import is_number_word
from signtown.names import is_name, is_price

PRICE_DIGITS = 12
ROAD_WORDS = 6
SETTLED_WORDS = 4


def check_street(name, one, other):
    """Raises BadStreet unless a street can have this name and these ends."""
    if not is_name(name):
        raise BadStreet("name")
    if not is_name(one) or not is_name(other):
        raise BadStreet("end")
    if one == other:
        raise BadStreet("same")


def check_prices(there, back):
    """Raises BadPrice with the first of both that is no price."""
    for price in (there, back):
        if not is_price(price):
            raise BadPrice(price)


def check_end(ends, corner):
    """Raises NoCorner for any value that is none of the ends."""
    if corner not in ends:
        raise NoCorner(corner)


def far_end(ends, corner):
    """The one of the ends that is not this corner."""
    check_end(ends, corner)
    one, other = ends
    return other if corner == one else one


def can_stand(words, at):
    """Whether the word at this index from 1 on is right behind right words."""
    word = words[at]
    if at > 3:
        return is_number_word(word, PRICE_DIGITS)
    if not is_name(word):
        return False
    if at == 3 and words[0] == "lane":
        return word != words[2]
    return at < 3 or words[2] < word


def first_wrong(words, kinds):
    """The index of the first word that is wrong, missing or too many; None if there is none."""
    if words[0] not in kinds:
        return 0
    length = ROAD_WORDS if words[0] == "road" else SETTLED_WORDS
    for at in range(1, length):
        if at == len(words) or not can_stand(words, at):
            return at
    return length if len(words) > length else None


def read_street(text, kinds):
    """The street with this text, if its first word is one of the kinds."""
    if not isinstance(text, str):
        raise BadText(0, 0)
    words = text.split(" ")
    wrong = first_wrong(words, kinds)
    if wrong is not None:
        raise BadText(0, wrong)
    if words[0] == "lane":
        return Lane(words[1], words[2], words[3])
    if words[0] == "avenue":
        return Avenue(words[1], words[2], words[3])
    return Road(words[1], words[2], words[3], int(words[4]), int(words[5]))


class Street:
    """The base of all streets, never made itself: what can be asked of each of them."""

    KINDS = ("lane", "avenue", "road")

    @property
    def ends(self):
        """The ascending pair of the ends."""
        raise NotImplementedError("each class below has its own")

    def __contains__(self, corner):
        return corner in self.ends

    def far(self, corner):
        """The other end."""
        return far_end(self.ends, corner)

    def leads(self, goal):
        """Whether the street leads to this end as it is."""
        raise NotImplementedError("each class below has its own")

    def __invert__(self):
        raise NotImplementedError("each class below has its own")

    def renamed(self, name):
        """The same street with another name."""
        raise NotImplementedError("each class below has its own")

    def opened(self):
        """The avenue with this name and these ends."""
        one, other = self.ends
        return Avenue(self.name, one, other)

    def __eq__(self, other):
        return isinstance(other, Street) and str(self) == str(other)

    def __str__(self):
        return f"street {self.name}"

    @classmethod
    def read(cls, text):
        """The street with just this text."""
        return read_street(text, cls.KINDS)


class Settled(Street):
    """The base of the streets that lead as they are, without a sign; never made itself."""

    KINDS = ("lane", "avenue")

    @classmethod
    def read(cls, text):
        """The lane or avenue with just this text."""
        return read_street(text, cls.KINDS)


class Even(Street):
    """The base of the streets whose ends play the same part; never made itself."""

    KINDS = ("avenue", "road")

    @classmethod
    def read(cls, text):
        """The avenue or road with just this text."""
        return read_street(text, cls.KINDS)


class Lane(Settled):
    """A street that leads from its start to its goal."""

    KINDS = ("lane",)

    def __init__(self, name, start, goal):
        check_street(name, start, goal)
        self.name = name
        self.start = start
        self.goal = goal

    @property
    def ends(self):
        """The ascending pair of the ends."""
        if self.start < self.goal:
            return self.start, self.goal
        return self.goal, self.start

    def __contains__(self, corner):
        return corner in self.ends

    def far(self, corner):
        """The other end."""
        return far_end(self.ends, corner)

    def leads(self, goal):
        """Whether this end is the goal."""
        check_end(self.ends, goal)
        return goal == self.goal

    def __invert__(self):
        return Lane(self.name, self.goal, self.start)

    def renamed(self, name):
        """The same lane with another name."""
        return Lane(name, self.start, self.goal)

    def opened(self):
        """The avenue with this name and these ends."""
        return Avenue(self.name, self.start, self.goal)

    def __eq__(self, other):
        return (isinstance(other, Lane) and self.name == other.name
                and self.start == other.start and self.goal == other.goal)

    def __str__(self):
        return f"lane {self.name} {self.start} {self.goal}"

    @classmethod
    def read(cls, text):
        """The lane with just this text."""
        return read_street(text, cls.KINDS)


class Avenue(Settled, Even):
    """A street that leads both ways between its ends."""

    KINDS = ("avenue",)

    def __init__(self, name, one, other):
        check_street(name, one, other)
        self.name = name
        self.one = one if one < other else other
        self.other = other if one < other else one

    @property
    def ends(self):
        """The ascending pair of the ends."""
        return self.one, self.other

    def __contains__(self, corner):
        return corner in self.ends

    def far(self, corner):
        """The other end."""
        return far_end(self.ends, corner)

    def leads(self, goal):
        """True for both ends."""
        check_end(self.ends, goal)
        return True

    def __invert__(self):
        return self

    def renamed(self, name):
        """The same avenue with another name."""
        return Avenue(name, self.one, self.other)

    def opened(self):
        """The avenue itself: it leads both ways already."""
        return self

    def __eq__(self, other):
        return (isinstance(other, Avenue) and self.name == other.name
                and self.one == other.one and self.other == other.other)

    def __str__(self):
        return f"avenue {self.name} {self.one} {self.other}"

    @classmethod
    def read(cls, text):
        """The avenue with just this text."""
        return read_street(text, cls.KINDS)


class Road(Even):
    """A street that is to get a sign: there leads to the greater end, back to the lesser one."""

    KINDS = ("road",)

    def __init__(self, name, one, other, there=0, back=0):
        check_street(name, one, other)
        check_prices(there, back)
        self.name = name
        # The ends are kept in order, so the prices change places with them.
        self.one = one if one < other else other
        self.other = other if one < other else one
        self.there = there if one < other else back
        self.back = back if one < other else there

    @property
    def ends(self):
        """The ascending pair of the ends."""
        return self.one, self.other

    def __contains__(self, corner):
        return corner in self.ends

    def far(self, corner):
        """The other end."""
        return far_end(self.ends, corner)

    def leads(self, goal):
        """False for both ends: a road has no sign of its own."""
        check_end(self.ends, goal)
        return False

    def price(self, goal):
        """The price of the sign that leads to this end."""
        check_end(self.ends, goal)
        return self.there if goal == self.other else self.back

    def signed(self, goal):
        """The lane with this name that leads to this end."""
        return Lane(self.name, self.far(goal), goal)

    def priced(self, *, there=None, back=None):
        """The same road with other prices; None leaves one as it is."""
        if there is None:
            there = self.there
        if back is None:
            back = self.back
        return Road(self.name, self.one, self.other, there, back)

    def __invert__(self):
        return Road(self.name, self.one, self.other, self.back, self.there)

    def renamed(self, name):
        """The same road with another name."""
        return Road(name, self.one, self.other, self.there, self.back)

    def opened(self):
        """The avenue with this name and these ends."""
        return Avenue(self.name, self.one, self.other)

    def __eq__(self, other):
        return (isinstance(other, Road) and self.name == other.name
                and self.one == other.one and self.other == other.other
                and self.there == other.there and self.back == other.back)

    def __str__(self):
        return f"road {self.name} {self.one} {self.other} {self.there} {self.back}"

    @classmethod
    def read(cls, text):
        """The road with just this text."""
        return read_street(text, cls.KINDS)
