"""Walks through a town with signs, bundles of them, and the ways that show signs to be good."""

from signtown.checks import check_apart, check_plan, check_signed
from signtown.flows import most_walks
from signtown.goods import check_good
from signtown.leads import settled_into
from signtown.papers import same
from signtown.wards import Ward


def has_no_twice(names):
    """Whether no name stands twice in the list or tuple."""
    return len(set(names)) == len(names)


def end_of(plan, start, names):
    """The corner to which streets of these names lead from a corner; None if they do not lead on."""
    at = start
    for name in names:
        street = plan[name]
        if at not in street or not street.leads(street.far(at)):
            return None
        at = street.far(at)
    return at


def leads_along(plan, start, goal, walk):
    """Whether any value is a walk from start to goal, any values, along settled streets."""
    if start not in plan.corners or goal not in plan.corners:
        return False
    if not isinstance(walk, tuple) or len(walk) == 0 or not all([name in plan for name in walk]):
        return False
    return has_no_twice(walk) and end_of(plan, start, walk) == goal


def are_apart(plan, start, goal, walks):
    """Whether any value is a tuple of walks from start to goal that share no street."""
    if not isinstance(walks, tuple) or not all([leads_along(plan, start, goal, walk) for walk in walks]):
        return False
    return has_no_twice([name for walk in walks for name in walk])


def is_walk(town, signs, start, goal, walk):
    """Whether any value is a walk from start to goal, any values, along lanes, avenues and signed roads."""
    check_signed(town, signs)
    return leads_along(town.settled(signs), start, goal, walk)


class Bundle:
    """Walks that share no street, and a ward which shows that there cannot be more of them."""

    def __init__(self, walks, ward):
        self.walks = walks
        self.ward = ward

    def __len__(self):
        return len(self.walks)

    def __eq__(self, other):
        return isinstance(other, Bundle) and same(self.walks, other.walks) and same(self.ward, other.ward)


class Ways:
    """Bundles from the root to each other corner, and from each other corner to the root."""

    def __init__(self, root, out, back):
        self.root = root
        self.out = out
        self.back = back

    def __eq__(self, other):
        if not isinstance(other, Ways):
            return False
        return same(self.root, other.root) and same(self.out, other.out) and same(self.back, other.back)


def bundle(town, signs, start, goal):
    """As many walks from start to goal as can be, and a ward into which just so many streets lead."""
    check_signed(town, signs)
    check_apart(town, start, goal)
    walks, came = most_walks(town.settled(signs), start, goal)
    # One more walk cannot leave the corners that were reached: each street out of them is led along already.
    corners = [corner for corner in town.corners if corner not in came]
    return Bundle(walks, Ward(*corners))


def shows_bundle(town, signs, start, goal, value):
    """Whether any value is a Bundle as bundle returns it."""
    check_signed(town, signs)
    check_apart(town, start, goal)
    plan = town.settled(signs)
    if not isinstance(value, Bundle) or not are_apart(plan, start, goal, value.walks):
        return False
    ward = value.ward
    if not isinstance(ward, Ward) or not ward.is_of(town) or goal not in ward or start in ward:
        return False
    return settled_into(plan, ward) == len(value.walks)


def first_walks(plan, start, goal, need):
    """Just so many walks of a bundle that has as many as can be, or more."""
    walks, _ = most_walks(plan, start, goal)
    return walks[:need]


def ways_of(town, signs, need):
    """Ways for the need."""
    check_plan(town, signs, need)
    check_good(town, signs, need)
    plan = town.settled(signs)
    root, *others = town.corners
    out = {corner: first_walks(plan, root, corner, need) for corner in others}
    back = {corner: first_walks(plan, corner, root, need) for corner in others}
    return Ways(root, out, back)


def is_table(value, corners):
    """Whether any value is a dict from each of these corners, and nothing else, to tuples."""
    if not isinstance(value, dict) or len(value) != len(corners):
        return False
    return all([corner in value and isinstance(value[corner], tuple) for corner in corners])


def shows_ways(town, signs, need, value):
    """Whether any value is Ways for the need."""
    check_plan(town, signs, need)
    root, *others = town.corners
    if not isinstance(value, Ways) or value.root != root:
        return False
    out, back = value.out, value.back
    if not is_table(out, others) or not is_table(back, others):
        return False
    if not all([len(out[corner]) == need and len(back[corner]) == need for corner in others]):
        return False
    plan = town.settled(signs)
    return all([are_apart(plan, root, corner, out[corner]) and are_apart(plan, corner, root, back[corner])
                for corner in others])
