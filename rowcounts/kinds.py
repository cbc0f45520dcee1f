"""Kinds of rows, which some conditions tell apart."""

from rowcounts.basics import ordered_texts
from rowcounts.errors import BadTest, TooMany
from rowcounts.papers import own_copy, same
from rowcounts.truths import Condition, Missing, unlike_conditions

MOST_CONDITIONS = 3


class Kind:
    """A paper: the columns of some conditions with values of a row, and the truths of the conditions for it."""

    def __init__(self, row, truths):
        self.row = own_copy(row)
        self.truths = own_copy(truths)

    def __eq__(self, other):
        return isinstance(other, Kind) and same(self.row, other.row) and same(self.truths, other.truths)


def kinds(*conditions):
    """The tuple of the kinds of rows that some conditions tell apart, ordered by their values."""
    if not all([isinstance(condition, Condition) for condition in conditions]):
        raise BadTest("condition")
    unlike = unlike_conditions([conditions])
    if len(unlike) > MOST_CONDITIONS:
        raise TooMany("conditions", MOST_CONDITIONS)
    return kinds_of(unlike)


def kinds_of(conditions):
    """The same for unlike conditions, ascending by their texts."""
    columns = ordered_texts([condition.column for condition in conditions])
    found = {}
    for values in rows_over([values_in(column, conditions) for column in columns]):
        told = dict(zip(columns, values))
        truths = tuple([condition.known(told, {}) for condition in conditions])
        if truths not in found:
            found[truths] = Kind(tuple(zip(columns, values)), truths)
    return tuple([found[truths] for truths in found])


def values_in(column, conditions):
    """The values of a column at which the conditions can change, and one between them, ascending."""
    numbers = [condition.number for condition in conditions
               if condition.column == column and not isinstance(condition, Missing)]
    if not numbers:
        return [0, None]
    return [*sorted(set([int(number + step) for number in numbers for step in (-1, 0, 1)])), None]


def rows_over(columns):
    """A list of all rows with one value out of each of some lists, ascending as these are."""
    rows = [()]
    for values in columns:
        rows = [(*row, value) for row in rows for value in values]
    return rows
