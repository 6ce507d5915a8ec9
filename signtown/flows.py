"""Walks along settled streets: a shortest one, or as many as can be that share no street.

A plan is a Town of lanes and avenues alone, such as a town with all its signs. What is led is a dict from names of
streets to the ends to which walks go along them.
"""


def can_go(street, at, led):
    """Whether one more walk can go along the street from this end, perhaps by taking back what came along it."""
    if street.name in led:
        return led[street.name] == at
    return street.leads(street.far(at))


def reached(plan, led, start):
    """A dict from each corner to which one more walk can go to the street by which it comes there."""
    came = {start: None}
    queue = [start]
    done = 0
    while done < len(queue):
        at = queue[done]
        done += 1
        for street in plan:
            if at in street and street.far(at) not in came and can_go(street, at, led):
                came[street.far(at)] = street
                queue.append(street.far(at))
    return came


def way_back(came, start, goal):
    """The pairs of a street and the corner to which it was gone along, from the goal back to the start."""
    pairs = []
    at = goal
    while at != start:
        pairs.append((came[at], at))
        at = came[at].far(at)
    return pairs


def shortest(plan, start, goal):
    """The tuple of the names of a shortest walk between unlike corners; None if there is none."""
    came = reached(plan, {}, start)
    if goal not in came:
        return None
    return tuple([street.name for street, _ in way_back(came, start, goal)][::-1])


def lead_once_more(came, led, start, goal):
    """Adds one more walk to what is led; streets that it goes along against another walk are not led any more."""
    for street, at in way_back(came, start, goal):
        if street.name in led:
            del led[street.name]
        else:
            led[street.name] = at


def take_walk(plan, led, start, goal):
    """Takes a walk out of what is led, and returns the tuple of its names."""
    names = []
    at = start
    while at != goal:
        onward = [name for name in plan.names if name in led and at in plan[name] and led[name] != at]
        names.append(onward[0])
        at = led[onward[0]]
        del led[onward[0]]
    return tuple(names)


def most_walks(plan, start, goal):
    """As many walks as can be between unlike corners, and the dict of the corners that one more could reach."""
    led = {}
    many = 0
    came = reached(plan, led, start)
    while goal in came:
        lead_once_more(came, led, start, goal)
        many += 1
        came = reached(plan, led, start)
    walks = [take_walk(plan, led, start, goal) for _ in range(many)]
    return tuple(walks), came
