"""The errors of the package. Each keeps its fields and looks at none of them."""


class TownError(ValueError):
    """The base of all errors of the package."""


class BadInput(TownError):
    """A value has not the form that is asked for."""


class Refused(TownError):
    """The values do not fit each other."""


class NoAnswer(TownError):
    """There is nothing that could be answered."""


class Barred(TownError):
    """The cause of NoSigns: weights that show that there are no good signs."""

    def __init__(self, weights):
        self.weights = weights


class BadName(BadInput):
    """The value is no name."""

    def __init__(self, value):
        self.value = value


class BadPrice(BadInput):
    """The value is no price."""

    def __init__(self, value):
        self.value = value


class BadNeed(BadInput):
    """The value is no need."""

    def __init__(self, value):
        self.value = value


class BadStreet(BadInput):
    """This part of a street is wrong."""

    def __init__(self, part):
        self.part = part


class BadTown(BadInput):
    """This part of a town is wrong."""

    def __init__(self, part):
        self.part = part


class BadWard(BadInput):
    """This part of a ward is wrong."""

    def __init__(self, part):
        self.part = part


class BadSigns(BadInput):
    """This part of signs is wrong."""

    def __init__(self, part):
        self.part = part


class BadWeights(BadInput):
    """This part of weights is wrong."""

    def __init__(self, part):
        self.part = part


class BadText(BadInput):
    """The word of this index in the line of this index cannot stand."""

    def __init__(self, line, word):
        self.line = line
        self.word = word


class BadLine(BadInput):
    """The word of this index in a line for a desk cannot stand."""

    def __init__(self, word):
        self.word = word


class NoCorner(Refused):
    """There is no such corner here."""

    def __init__(self, name):
        self.name = name


class NoStreet(Refused):
    """There is no such street here."""

    def __init__(self, name):
        self.name = name


class NoRoad(Refused):
    """There is no such road here."""

    def __init__(self, name):
        self.name = name


class NoSign(Refused):
    """There is no sign of this name here."""

    def __init__(self, name):
        self.name = name


class NotAlong(Refused):
    """A walk does not lead along this road."""

    def __init__(self, name):
        self.name = name


class Level(Refused):
    """The corner has nothing to gain, or is told as both ends."""

    def __init__(self, corner):
        self.corner = corner


class Unlike(Refused):
    """This part is not the same where it should be."""

    def __init__(self, part):
        self.part = part


class TooMany(Refused):
    """There are more of these than the most that can be."""

    def __init__(self, what, most):
        self.what = what
        self.most = most


class NotGood(Refused):
    """The signs are not good for this need."""

    def __init__(self, need):
        self.need = need


class Empty(NoAnswer):
    """The town has no street."""


class NoSigns(NoAnswer):
    """There are no good signs."""


class NoDeed(NoAnswer):
    """There is no deed to take back."""
