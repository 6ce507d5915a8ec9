"""Wards as bits, one bit for each corner of a town, and how weights are moved from wards that cross.

That the heaviest two are taken first keeps the number of moves small however many figures the weights have.
"""


def bits_of(ward, corners):
    """The bits of the ward among all corners."""
    return sum([1 << at for at, corner in enumerate(corners) if corner in ward])


def corners_of(bits, corners):
    """The tuple of the corners that these bits tell."""
    return tuple([corner for at, corner in enumerate(corners) if (bits >> at) & 1])


def are_crossing(one, other, whole):
    """Whether two wards cross: they share a corner, none is within the other, a corner of the whole is in neither."""
    common = one & other
    return common not in (0, one, other) and (one | other) != whole


def first_crossing(wards, whole):
    """The first ward that crosses one ahead of it, with this one; None if no two cross."""
    for at, ward in enumerate(wards):
        for other in wards[:at]:
            if are_crossing(ward, other, whole):
                return ward, other
    return None


def heaviest_first(weights):
    """The wards by their weights, the greatest ahead."""
    return [ward for _, ward in sorted(set([(-weights[bits], bits) for bits in weights]))]


def moved_off(weights, lighter, other):
    """The weights when that of the lighter ward is moved from both to their common corners and to all of theirs."""
    much = weights[lighter]
    behind = dict(weights)
    for ward, change in ((lighter, -much), (other, -much), (lighter & other, much), (lighter | other, much)):
        behind[ward] = behind.get(ward, 0) + change
    return {ward: behind[ward] for ward in behind if behind[ward] > 0}


def uncrossed(weights, whole):
    """Weights with the same sums at all corners, no two of whose wards cross."""
    behind = dict(weights)
    pair = first_crossing(heaviest_first(behind), whole)
    while pair is not None:
        lighter, other = pair
        behind = moved_off(behind, lighter, other)
        pair = first_crossing(heaviest_first(behind), whole)
    return behind
