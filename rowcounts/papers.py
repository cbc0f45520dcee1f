"""What all papers share: they may be made of any values, and kinds count when they are compared."""


def own_copy(value):
    """A value as a paper keeps it: its lists and dicts are new ones, which nobody else changes."""
    if isinstance(value, tuple):
        return tuple([own_copy(item) for item in value])
    if isinstance(value, list):
        return [own_copy(item) for item in value]
    if isinstance(value, dict):
        return {key: own_copy(value[key]) for key in value}
    return value


def same(one, other):
    """Whether two values are equal and of the same kinds, so that True is no 1."""
    if isinstance(one, dict) and isinstance(other, dict):
        return len(one) == len(other) and all([has_same(other, key, one[key]) for key in one])
    if isinstance(one, tuple) and isinstance(other, tuple) or isinstance(one, list) and isinstance(other, list):
        return len(one) == len(other) and all([same(item, against) for item, against in zip(one, other)])
    return isinstance(one, bool) == isinstance(other, bool) and bool(one == other)


def has_same(table, key, value):
    """Whether a dict has the same value under the same key."""
    return any([same(key, other) and same(value, table[other]) for other in table])
