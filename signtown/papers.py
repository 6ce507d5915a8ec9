"""How papers, which may be made of any values, are compared."""


def same(one, other):
    """Whether any two values are equal and of the same kinds, throughout: True is not 1."""
    if isinstance(one, (list, tuple)):
        return same_rows(one, other)
    if isinstance(one, dict):
        return same_tables(one, other)
    return isinstance(one, bool) == isinstance(other, bool) and one == other


def same_rows(one, other):
    """Whether any value is the same as a list or a tuple."""
    if not isinstance(other, (list, tuple)) or isinstance(one, list) != isinstance(other, list):
        return False
    return len(one) == len(other) and all([same(part, told) for part, told in zip(one, other)])


def same_tables(one, other):
    """Whether any value is the same as a dict, the kinds of the keys counted, too."""
    if not isinstance(other, dict) or len(one) != len(other):
        return False
    kept = {key: key for key in other}
    return all([key in kept and same(key, kept[key]) and same(one[key], other[key]) for key in one])
