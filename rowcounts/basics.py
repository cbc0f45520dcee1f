"""What integers, values, names and rows are, and how they are ordered."""

MOST_VALUES = 3

MOST_LETTERS = 8

RESERVED = {
    "and": True, "or": True, "not": True, "has": True, "null": True, "where": True, "unless": True, "empty": True,
    "of": True, "none": True, "self": True, "columns": True,
}


def is_integer(value):
    """Whether any value is an integer; True and False are none."""
    return isinstance(value, int) and not isinstance(value, bool)


def is_value(value):
    """Whether any value can stand in a row."""
    return value is None or is_integer(value)


def is_name(value):
    """Whether any value is the name of a table or a column."""
    if not isinstance(value, str) or len(value) > MOST_LETTERS:
        return False
    return value.isascii() and value.isalpha() and value.islower() and value not in RESERVED


def are_names(value, most):
    """Whether any value is a tuple of at most so many ascending names."""
    if not isinstance(value, tuple) or len(value) > most:
        return False
    if not all([is_name(name) for name in value]):
        return False
    return all([name < after for name, after in zip(value, value[1:])])


def is_row(value):
    """Whether any value is a row."""
    if not isinstance(value, tuple) or not 1 <= len(value) <= MOST_VALUES:
        return False
    return all([is_value(item) for item in value])


def is_row_of(value, width):
    """Whether any value is a row of so many values."""
    return is_row(value) and len(value) == width


def value_before(one, other):
    """Whether a value stands ahead of another one; NULL stands behind all integers."""
    if one is None:
        return False
    return other is None or one < other


def row_before(one, other):
    """Whether a row stands ahead of another one of the same width."""
    for value, against in zip(one, other):
        if value != against:
            return value_before(value, against)
    return False


def ordered_rows(rows):
    """A list of rows, ascending: bags have an order of their own, so sorted does not take rows."""
    if len(rows) < 2:
        return list(rows)
    half = len(rows) // 2
    return merged_rows(ordered_rows(rows[:half]), ordered_rows(rows[half:]))


def merged_rows(one, other):
    """One ascending list out of two ascending lists of rows."""
    found = []
    left = right = 0
    while left < len(one) and right < len(other):
        if row_before(other[right], one[left]):
            found.append(other[right])
            right += 1
        else:
            found.append(one[left])
            left += 1
    return [*found, *one[left:], *other[right:]]


def ordered_texts(texts):
    """The tuple of all unlike strings of a list, ascending."""
    if len(texts) < 2:
        return tuple(texts)
    return tuple(sorted(set([str(text) for text in texts])))


def merged_texts(one, other):
    """The ascending tuple of all strings of two such tuples, which are most often equal, or one of them is empty."""
    if one == other or not other:
        return one
    return ordered_texts([*one, *other]) if one else other
