"""What either sign of a road costs, and which signs all good signs of the least price have."""

from signtown.best import cheapest
from signtown.checks import check_asked
from signtown.errors import Barred, NoRoad, NoSigns
from signtown.kinds import check_town
from signtown.papers import same
from signtown.signs import Signs
from signtown.streets import check_end


def check_road(town, name):
    """Raises NoRoad for any value that is no name of a road of the Town."""
    if name not in town.roads:
        raise NoRoad(name)


def price_to(road, goal, answer):
    """The least price of good signs with this sign of the road, by the answer for it; None if there are none."""
    if not answer:
        return None
    return answer.cost + road.price(goal)


class Choice:
    """The answers for a town in which a road is a lane: one to its lesser end, other to its greater end."""

    def __init__(self, name, one, other):
        self.name = name
        self.one = one
        self.other = other

    def road_of(self, town):
        """The road of this name in any value of town; raises an error unless there is one."""
        check_town(town)
        check_road(town, self.name)
        return town[self.name]

    def price(self, town, goal):
        """The least price of good signs in which the road leads to this end; None if there are none."""
        road = self.road_of(town)
        check_end(road.ends, goal)
        return price_to(road, goal, self.one if goal == road.one else self.other)

    def gap(self, town):
        """The price to the greater end less that to the lesser one; None if one of them is None."""
        road = self.road_of(town)
        one, other = self.price(town, road.one), self.price(town, road.other)
        if one is None or other is None:
            return None
        return other - one

    def settles(self, town):
        """The corner to which the road leads in all good signs of the least price; None if there is no such one."""
        road = self.road_of(town)
        one, other = self.price(town, road.one), self.price(town, road.other)
        if one == other:
            return None
        if one is None or (other is not None and other < one):
            return road.other
        return road.one

    def __eq__(self, other):
        if not isinstance(other, Choice) or not same(self.name, other.name):
            return False
        return same(self.one, other.one) and same(self.other, other.other)


def answer_with(town, need, name, goal):
    """The answer of cheapest for the town in which the road is a lane to this end."""
    sign = Signs({name: (town[name].far(goal), goal)})
    return cheapest(town.settled(sign), need)


def choice(town, need, name):
    """The Choice of a road."""
    check_asked(town, need)
    check_road(town, name)
    road = town[name]
    return Choice(name, answer_with(town, need, name, road.one), answer_with(town, need, name, road.other))


def signs_without(town, need, best, name):
    """Good signs, as cheap as the best ones, that have the other sign of this road; None if there are none."""
    goal = best.signs.tail(name)
    answer = answer_with(town, need, name, goal)
    if price_to(town[name], goal, answer) != best.cost:
        return None
    return answer.signs | Signs({name: (best.signs[name], goal)})


def sure_signs(town, need):
    """The Signs that all good signs of the least price have."""
    best = cheapest(town, need)
    if not best:
        raise NoSigns() from Barred(best.weights)
    sure = best.signs
    for name in town.roads:
        found = signs_without(town, need, best, name) if name in sure else None
        if found is not None:
            sure = sure & found
    return sure
