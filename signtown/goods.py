"""Whether signs are good, by a look at all wards."""

from signtown.errors import NotGood
from signtown.leads import settled_into


def short_ward(town, signs, need):
    """The first ward into which fewer streets lead than the need asks; None if the signs are good."""
    plan = town.settled(signs)
    for ward in town.wards():
        if settled_into(plan, ward) < need:
            return ward
    return None


def check_good(town, signs, need):
    """Raises NotGood unless signs that fit are good for the need."""
    if short_ward(town, signs, need) is not None:
        raise NotGood(need)
