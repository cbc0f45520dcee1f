"""Kinds of rows, which some conditions tell apart."""

from rowcounts.basics import ordered_texts
from rowcounts.errors import BadTest, TooMany
from rowcounts.papers import own_copy, same
from rowcounts.truths import Condition, Missing, unlike_conditions

MOST_CONDITIONS = 3


class Kind:
    """A paper: the columns of some conditions with values of a row, and the truths of the conditions for it."""

    def __init__(self, row, truths):
        self.row = own_copy(row)
        self.truths = own_copy(truths)

    def __eq__(self, other):
        return isinstance(other, Kind) and same(self.row, other.row) and same(self.truths, other.truths)


class Sort:
    """What a Kind tells, and its row as a dict, too."""

    def __init__(self, row, truths):
        self.row = row
        self.truths = truths
        self.known_values = dict(row)


def kinds(*conditions):
    """The tuple of the kinds of rows that some conditions tell apart, ordered by their values."""
    if not all([isinstance(condition, Condition) for condition in conditions]):
        raise BadTest("condition")
    unlike = unlike_conditions(conditions)
    if len(unlike) > MOST_CONDITIONS:
        raise TooMany("conditions", MOST_CONDITIONS)
    return tuple([Kind(sort.row, sort.truths) for sort in sorts_of(unlike)])


def sorts_of(conditions):
    """The same as Sorts, for unlike conditions, ascending by their texts: so those of one column stand together."""
    found = [((), ())]
    for column in ordered_texts([condition.column for condition in conditions]):
        told = values_told(column, [condition for condition in conditions if condition.column == column])
        found = [((*row, (column, value)), (*truths, *more)) for row, truths in found for value, more in told]
    return tuple([Sort(row, truths) for row, truths in found])


def values_told(column, conditions):
    """A list of pairs, ascending: the first value of a column for which its conditions have some truths, and these."""
    found = {}
    for value in values_in(conditions):
        told = {column: value}
        truths = tuple([condition.known(told, {}) for condition in conditions])
        if truths not in found:
            found[truths] = value
    return [(found[truths], truths) for truths in found]


def values_in(conditions):
    """The values at which some conditions on one column can change, and one between them, ascending."""
    numbers = [condition.number for condition in conditions if not isinstance(condition, Missing)]
    if not numbers:
        return [0, None]
    return [*sorted(set([int(number + step) for number in numbers for step in (-1, 0, 1)])), None]
