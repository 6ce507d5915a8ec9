"""Towns, signs, weights, ways, answers and works as texts."""

from signtown.best import Best
from signtown.kinds import check_town
from signtown.names import ascending
from signtown.signs import check_signs
from signtown.weights import check_weights


def street_lines(town):
    """A line for each street."""
    return [str(street) for street in town]


def sign_lines(signs):
    """A line for each sign."""
    return [f"sign {name} {signs.tail(name)} {signs[name]}" for name in signs]


def signs_lines(signs):
    """The lines of signs."""
    return ["signs"] + sign_lines(signs)


def weights_lines(weights):
    """The lines of weights."""
    return ["weights"] + [f"weight {weights[ward]} {ward}" for ward in weights]


def bundle_line(head, corner, walks):
    """The line of a bundle."""
    return " ".join([head, corner] + [",".join(walk) for walk in walks])


def ways_lines(ways):
    """The lines of ways."""
    lines = [f"ways {ways.root}"]
    for corner in ascending(list(ways.out)):
        lines.append(bundle_line("out", corner, ways.out[corner]))
        lines.append(bundle_line("back", corner, ways.back[corner]))
    return lines


def answer_lines(answer):
    """The lines of a Best or a Never."""
    if isinstance(answer, Best):
        head = [f"best {answer.cost}"] + signs_lines(answer.signs) + ways_lines(answer.ways)
    else:
        head = ["never"]
    return head + weights_lines(answer.weights)


def town_text(town):
    """The text of a town."""
    check_town(town)
    return "\n".join(["town"] + street_lines(town))


def signs_text(signs):
    """The text of signs."""
    check_signs(signs)
    return "\n".join(signs_lines(signs))


def weights_text(weights):
    """The text of weights."""
    check_weights(weights)
    return "\n".join(weights_lines(weights))


def ways_text(ways):
    """The text of ways."""
    return "\n".join(ways_lines(ways))


def answer_text(answer):
    """The text of a Best or a Never."""
    return "\n".join(answer_lines(answer))


def works_text(works):
    """The text of works."""
    return "\n".join([f"works {works.need}"] + street_lines(works.town) + sign_lines(works.given))
